"""The listeners and senders of the document and a few more, values that are nothing good, and a check of calls."""

import copy

from latecomers.chasers import Chaser
from latecomers.ears import Ear
from latecomers.listeners import Listener
from latecomers.senders import Sender

NO_INTEGERS = [True, False, None, "0", 0.0, b"0", [0], (0,), {}]
NO_LISTS = [None, True, 0, 1, "ab", "", b"a", (), {}, ([],)]

KEEP = [[0, 1, 0], [0, 0, 1]]


def adder():
    """The listener L of the document."""
    return Listener([1, 1], [[(0, [[0, 0, 1]]), (0, [[0, 1, 1]])]], [[[0, 1]]])


def turns():
    """The sender S of the document."""
    return Sender([[(1, 1)], [(0, 0)]])


def anything():
    """The sender T of the document."""
    return Sender([[(0, 0), (1, 0)]])


def copier():
    """The chaser C of the document."""
    return Chaser([1, 1], [[(0, [[0, 0, 1]]), (0, [[0, 1, 1]])]], [[(0, [[0, 1]])]])


def steady():
    return Sender([[(0, 0)]])


def counter():
    """Two cells and three controls; control 2 is never reached from control 0 or 1.

    Kind 0 adds 1 to cell 0 and 2 to cell 1, and takes control 0 to 1 and 1 to 0.
    """
    step = [[1, 1, 0], [2, 0, 1]]
    return Listener([0], [[(1, step)], [(0, step)], [(2, KEEP)]], [[], [], []])


def shifter():
    """Three cells in a row: each message shifts its integer into the first."""
    return Listener([1], [[(0, [[0, 0, 0, 0, 1], [0, 1, 0, 0, 0], [0, 0, 1, 0, 0]])]], [[]])


def pair():
    """Two controls, one cell: kind 0 goes to control 1 and sets the cell, kind 1 keeps the control and adds 1."""
    return Listener([1, 0], [[(1, [[0, 0, 1]]), (0, [[1, 1]])], [(1, [[0, 0, 1]]), (1, [[1, 1]])]], [[], []])


def odd_things():
    """Return values of all sorts; none of them is a list, a tuple of three or a dict of what a judge asks for."""
    deep = []
    for _ in range(18):
        deep = [deep]
    deep_tuple = ()
    for _ in range(18):
        deep_tuple = (deep_tuple,)
    return [None, True, False, 0, 1, -1, 10 ** 2000, 0.0, float("nan"), 1j, "", "ab", "000", b"", b"ab", bytearray(b"ab"),
            (), (0,), (0, 0), (0, 0, []), {}, {0: 0}, {(0, 0, 0): None}, set(), {1}, frozenset(), range(3), slice(0, 1),
            iter([]), (item for item in ()), memoryview(b"ab"), object(), int, len, Ellipsis, NotImplemented,
            ValueError("a"), lists_in, lambda: 0, deep_tuple, [None], [True], [0], ["ab"], [[]], [()], [{}], [set()], [0.5],
            [[None]], [(None,)], [[[]]], deep, adder(), turns(), copier(), Ear(adder()), [adder()], [turns()],
            [Ear(adder())], (adder(),), (adder(), adder(), adder()), ([], None, []), {0: adder()}]


def lists_in(value):
    """Return all lists within the value, as often as they occur."""
    found = [value] if isinstance(value, list) else []
    if isinstance(value, (list, tuple)):
        for item in value:
            found += lists_in(item)
    if isinstance(value, dict):
        for item in value.values():
            found += lists_in(item)
    return found


def dicts_in(value):
    """Return all dicts within the value."""
    found = [value] if isinstance(value, dict) else []
    if isinstance(value, (list, tuple)):
        for item in value:
            found += dicts_in(item)
    return found


def check_calls(test, calls):
    """Check of each function with its arguments that it leaves them alone and that what it returns is the caller's."""
    for function, *arguments in calls:
        with test.subTest(function=function.__name__, arguments=arguments):
            plain = [item for item in arguments if isinstance(item, (list, tuple, dict, int))]
            before = copy.deepcopy(plain)
            first = function(*arguments)
            test.assertEqual(plain, before)
            kept = copy.deepcopy(first)
            found = lists_in(first)
            test.assertEqual(len({id(item) for item in found}), len(found))
            test.assertFalse({id(item) for item in found} & {id(item) for item in lists_in(plain)})
            for item in found:
                item.append(99)
                item.reverse()
            for item in dicts_in(first):
                item.clear()
            test.assertEqual(function(*arguments), kept)
            test.assertEqual(plain, before)


def check_raises(test, error, keeps, function, *arguments, **named):
    """Check that the call raises this very error with this in its attributes."""
    with test.assertRaises(error) as caught:
        function(*arguments, **named)
    test.assertIs(type(caught.exception), error)
    test.assertEqual(vars(caught.exception), keeps)
