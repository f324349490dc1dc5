"""Two listeners that look alike: the example, the edges, the errors and what calls leave alone."""

import unittest

from latecomers.errors import Unlike
from latecomers.listeners import Listener
from latecomers.pairs import alike_listeners, pair_fault, pair_run_fault
from latecomers.senders import Sender
from samples import (
    NO_INTEGERS, NO_LISTS, adder, anything, check_calls, check_raises, counter, odd_things, shifter, steady, turns)

MIRRORED = [[1, 0, 0], [0, 1, -1]]
WHOLE = [[1, 0, 0], [0, 1, 0], [0, 0, 1]]
GREAT = 10 ** 60 - 1


def negative():
    """The listener N of the document: adder with its cell negated."""
    return Listener([1, 1], [[(0, [[0, 0, -1]]), (0, [[0, 1, -1]])]], [[[0, -1]]])


def wide():
    """Adder written with two controls and three cells: the sum is kept twice, and one cell counts."""
    rules = [[(1, [[0, 0, 0, 0, 1], [0, 0, 0, 0, 1], [1, 0, 0, 1, 0]]), (1, [[0, 0, 1, 0, 1], [0, 1, 0, 0, 1], [1, 0, 0, 1, 0]])],
             [(0, [[0, 0, 0, 0, 1], [0, 0, 0, 0, 1], [0, 0, 0, 0, 0]]), (1, [[0, 0, 1, 0, 1], [0, 1, 0, 0, 1], [0, 0, 0, 1, 0]])]]
    return Listener([1, 1], rules, [[[0, 1, 0, 0]], [[0, 0, 1, 0]]])


def late_difference(many):
    """Two listeners without integers of which the second sees something else behind exactly that many messages."""
    count = [[(0, [[1, 1, 0], [0, 0, 0]])]]
    one = Listener([0], count, [[[0, 1, 0]]])
    turned = Listener([0], [[(1, [[1, 1]])], [(2, [[1, 1]])], [(2, [[1, 1]])]],
                      [[[0, 1]] if many > at else [[0, 1], [0, 1]] for at in range(3)])
    return one, turned


class AlikeListenersTest(unittest.TestCase):

    def test_examples(self):
        self.assertEqual(alike_listeners(adder(), negative(), anything()), ("alike", [(0, 0, 0, MIRRORED)]))

    def test_a_listener_is_like_itself(self):
        self.assertEqual(alike_listeners(adder(), adder(), anything()), ("alike", [(0, 0, 0, [[1, 0, 0], [0, 1, 1]])]))
        self.assertEqual(alike_listeners(adder(), adder(), turns()), ("alike", [
            (0, 0, 0, [[1, 0, 0], [0, 1, 1]]), (1, 0, 0, [[1, 0, 0], [0, 1, 1]])]))

    def test_unlike_numbers_of_controls_and_of_cells(self):
        for sender in (anything(), turns()):
            for one, other in [(adder(), wide()), (wide(), adder()), (wide(), negative())]:
                word, table = alike_listeners(one, other, sender)
                self.assertEqual(word, "alike")
                self.assertIsNone(pair_fault(one, other, sender, table))
        self.assertEqual({len(basis[0]) for *key, basis in alike_listeners(adder(), wide(), anything())[1]}, {5})
        self.assertEqual([item[:3] for item in alike_listeners(adder(), wide(), anything())[1]], [(0, 0, 0), (0, 0, 1)])
        self.assertEqual([item[:3] for item in alike_listeners(wide(), adder(), anything())[1]], [(0, 0, 0), (0, 1, 0)])

    def test_the_run_is_empty_if_they_see_unlike_tuples_at_the_start(self):
        for shows in ([[[1, 1]]], [[]], [[[0, 1], [0, 1]]]):
            other = Listener([1, 1], [[(0, [[0, 0, 1]]), (0, [[0, 1, 1]])]], shows)
            self.assertEqual(alike_listeners(adder(), other, anything()), ("run", []))
        self.assertEqual(alike_listeners(*late_difference(0), steady()), ("run", []))

    def test_the_run_is_as_short_as_possible(self):
        for many in (1, 2):
            self.assertEqual(alike_listeners(*late_difference(many), steady()), ("run", [(0, ())] * many))
        self.assertEqual(alike_listeners(*late_difference(3), steady())[0], "alike")
        shows = [[[0, 0, 0, 1]]]
        shifts = Listener([1], [[(0, [[0, 0, 0, 0, 1], [0, 1, 0, 0, 0], [0, 0, 1, 0, 0]])]], shows)
        doubles = Listener([1], [[(0, [[0, 0, 0, 0, 2], [0, 1, 0, 0, 0], [0, 0, 1, 0, 0]])]], shows)
        word, messages = alike_listeners(shifts, doubles, steady())
        self.assertEqual((word, len(messages)), ("run", 3))
        self.assertIsNone(pair_run_fault(shifts, doubles, steady(), messages))

    def test_what_the_sender_does_not_emit_does_not_matter(self):
        other = Listener([1, 1], [[(0, [[5, 3, 7]]), (0, [[0, 1, 1]])]], [[[0, 1]]])
        self.assertEqual(alike_listeners(adder(), other, Sender([[(1, 0)]])), ("alike", [(0, 0, 0, [[1, 0, 0], [0, 1, 1]])]))
        self.assertEqual(alike_listeners(adder(), other, Sender([[(1, 0)], [(0, 1)]]))[0], "alike")
        self.assertEqual(alike_listeners(adder(), other, turns())[0], "run")

    def test_no_shows_at_all(self):
        silent = Listener([1], [[(0, [[0, 0, 9]])]], [[]])
        self.assertEqual(alike_listeners(shifter(), silent, steady())[0], "alike")
        self.assertEqual(alike_listeners(silent, shifter(), steady())[0], "alike")

    def test_only_what_is_carried_parts_them(self):
        other = Listener([1, 1], [[(0, [[0, 0, 2]]), (0, [[0, 1, 1]])]], [[[0, 1]]])
        word, messages = alike_listeners(adder(), other, turns())
        self.assertEqual((word, len(messages)), ("run", 2))
        self.assertIsNone(pair_run_fault(adder(), other, turns(), messages))


class PairFaultTest(unittest.TestCase):

    def fault(self, thing):
        return pair_fault(adder(), negative(), turns(), thing)

    def test_without_fault(self):
        self.assertIsNone(self.fault([(0, 0, 0, MIRRORED), (1, 0, 0, MIRRORED)]))
        self.assertIsNone(pair_fault(adder(), negative(), anything(), [(0, 0, 0, MIRRORED)]))
        # A closed table may have keys that are not reached, and spaces that are greater.
        other = Listener([1, 1], [[(0, [[0, 0, -1]]), (0, [[0, 1, -1]])]] * 2, [[[0, -1]], [[0, -1]]])
        self.assertIsNone(pair_fault(adder(), other, anything(), [(0, 0, 0, MIRRORED), (0, 0, 1, MIRRORED)]))
        silent = Listener([1], [[(0, [[0, 0, 9]])]], [[]])
        self.assertIsNone(pair_fault(silent, silent, steady(), [(0, 0, 0, WHOLE)]))

    def test_form(self):
        good, other = (0, 0, 0, MIRRORED), (1, 0, 0, MIRRORED)
        for thing in [*[item for item in odd_things() if item != []], *NO_LISTS, (good, other), [list(good), other], [good, good],
                      [other, good], [good, other, other], [good, (2, 0, 0, MIRRORED)], [good, (0, 1, 0, MIRRORED)],
                      [good, (0, 0, 1, MIRRORED)], [(-1, 0, 0, MIRRORED), good], [(0, 0, MIRRORED)], [(0, 0, 0, 0, MIRRORED)],
                      *[[(bad, 0, 0, MIRRORED)] for bad in NO_INTEGERS], *[[(0, bad, 0, MIRRORED)] for bad in NO_INTEGERS],
                      *[[(0, 0, bad, MIRRORED)] for bad in NO_INTEGERS], *[[(0, 0, 0, bad)] for bad in NO_LISTS],
                      [(0, 0, 0, [])], [(0, 0, 0, [[0, 1, -1]])], [(0, 0, 0, [[1, 0]])], [(0, 0, 0, [[1, 0, 0, 0]])],
                      [(0, 0, 0, [[2, 0, 0]])], [(0, 0, 0, [[0, 1, -1], [1, 0, 0]])], [(0, 0, 0, [(1, 0, 0)])],
                      [(0, 0, 0, [[True, 0, 0]])], {(0, 0, 0): MIRRORED}]:
            with self.subTest(thing=thing):
                self.assertEqual(self.fault(thing), ("form",))
        table = alike_listeners(adder(), wide(), anything())[1]
        self.assertEqual(pair_fault(wide(), adder(), anything(), table), ("form",))
        self.assertEqual(pair_fault(adder(), adder(), anything(), table), ("form",))

    def test_start(self):
        for thing in [[], [(1, 0, 0, MIRRORED)], [(0, 0, 0, [[1, 1, -1]]), (1, 0, 0, MIRRORED)], [(0, 0, 0, [[1, 0, 1]])]]:
            self.assertEqual(self.fault(thing), ("start",))

    def test_closed(self):
        self.assertEqual(self.fault([(0, 0, 0, MIRRORED)]), ("closed", 0, 0, 0, 1, 1))
        self.assertEqual(self.fault([(0, 0, 0, MIRRORED), (1, 0, 0, [[1, 0, 0]])]), ("closed", 0, 0, 0, 1, 1))
        self.assertEqual(self.fault([(0, 0, 0, [[1, 0, 0]]), (1, 0, 0, MIRRORED)]), ("closed", 1, 0, 0, 0, 0))
        self.assertEqual(pair_fault(adder(), adder(), turns(), [(0, 0, 0, MIRRORED), (1, 0, 0, WHOLE)]),
                         ("closed", 1, 0, 0, 0, 0))
        one, other = adder(), wide()
        table = alike_listeners(one, other, anything())[1]
        self.assertEqual(pair_fault(one, other, anything(), table[:1]), ("closed", 0, 0, 0, 0, 0))

    def test_shows(self):
        self.assertEqual(self.fault([(0, 0, 0, WHOLE), (1, 0, 0, WHOLE)]), ("shows", 0, 0, 0))
        self.assertEqual(self.fault([(0, 0, 0, MIRRORED), (1, 0, 0, WHOLE)]), ("shows", 1, 0, 0))
        one, other = late_difference(2)
        whole = [[int(at == row) for at in range(4)] for row in range(4)]
        # The controls 0 and 1 see the same at the stands that are met; control 2 sees another number of shows.
        together = [[1, 0, 0, 0], [0, 1, 0, 1]]
        self.assertEqual(pair_fault(one, other, steady(), [(0, 0, 0, together), (0, 0, 1, together), (0, 0, 2, together)]),
                         ("shows", 0, 0, 2))
        self.assertEqual(pair_fault(one, other, steady(), [(0, 0, 0, whole), (0, 0, 1, whole), (0, 0, 2, whole)]),
                         ("shows", 0, 0, 0))

    def test_each_show_counts(self):
        rules = [[(0, [[0, 1, 0], [0, 0, 1]])]]
        one = Listener([0], rules, [[[0, 1, 0], [0, 0, 1]]])
        other = Listener([0], rules, [[[0, 1, 0], [1, 0, 1]]])
        table = [(0, 0, 0, [[1, 0, 0, 0, 0]])]
        self.assertIsNone(pair_fault(one, one, steady(), table))
        self.assertEqual(pair_fault(one, other, steady(), table), ("shows", 0, 0, 0))
        self.assertEqual(pair_fault(one, one, steady(), [(0, 0, 0, [[1, 0, 0, 0, 0], [0, 1, 0, 1, 0], [0, 0, 1, 0, 0]])]),
                         ("shows", 0, 0, 0))

    def test_the_first_fault_counts(self):
        self.assertEqual(self.fault([(0, 0, 0, [[1, 1, 0]]), (1, 0, 0, [[1, 1, 1], [0, 2, 2]])]), ("form",))
        self.assertEqual(self.fault([(0, 0, 0, [[1, 1, 0]]), (1, 0, 0, WHOLE)]), ("start",))
        self.assertEqual(self.fault([(0, 0, 0, WHOLE), (1, 0, 0, MIRRORED)]), ("closed", 0, 0, 0, 1, 1))

    def test_great_numbers(self):
        great = 10 ** 1999 + 7
        still = Listener([0], [[(0, [[0, 1]])]], [[[0, 1]]])
        self.assertEqual(pair_fault(still, still, steady(), [(0, 0, 0, [[1, 0, 0], [0, great, great + 1]])]), ("shows", 0, 0, 0))


class PairRunFaultTest(unittest.TestCase):

    def setUp(self):
        self.other = Listener([1, 1], [[(0, [[0, 0, 1]]), (0, [[1, 1, 1]])]], [[[0, 1]]])

    def fault(self, thing):
        return pair_run_fault(adder(), self.other, turns(), thing)

    def test_without_fault(self):
        self.assertIsNone(self.fault([(1, (0,))]))
        self.assertIsNone(self.fault([(1, (GREAT,)), (0, (0,)), (1, (-GREAT,))]))
        self.assertIsNone(self.fault([(1, (GREAT,)), (0, (0,))] * 29 + [(1, (0,))]))

    def test_form(self):
        good = (1, (0,))
        for thing in [*[item for item in odd_things() if item != []], *NO_LISTS, (good,), {0: good}, [None], [good, None],
                      [[1, (0,)]], [(1, [0])], [(1,)], [(1, (0,), 0)], [(2, (0,))], [(-1, (0,))], [(1, ())], [(1, (0, 0))],
                      *[[(bad, (0,))] for bad in NO_INTEGERS], *[[good, (1, (bad,))] for bad in NO_INTEGERS]]:
            with self.subTest(thing=thing):
                self.assertEqual(self.fault(thing), ("form",))

    def test_way(self):
        set_it, add = (0, (5,)), (1, (5,))
        for thing, index in [([set_it], 0), ([add, add], 1), ([add, set_it, set_it], 2), ([add, set_it, add, add, set_it], 3)]:
            self.assertEqual(self.fault(thing), ("way", index))

    def test_kept(self):
        self.assertEqual(self.fault([]), ("kept",))
        self.assertEqual(self.fault([(1, (5,)), (0, (1,))]), ("kept",))
        for messages in ([], [(0, (3,))], [(1, (3,)), (1, (4,)), (0, (5,)), (1, (6,))]):
            self.assertEqual(pair_run_fault(adder(), wide(), anything(), messages), ("kept",))
            self.assertEqual(pair_run_fault(wide(), negative(), anything(), messages), ("kept",))

    def test_unlike_numbers_of_shows(self):
        one, other = late_difference(1)
        self.assertEqual(pair_run_fault(one, other, steady(), []), ("kept",))
        self.assertIsNone(pair_run_fault(one, other, steady(), [(0, ())]))
        self.assertIsNone(pair_run_fault(one, other, steady(), [(0, ())] * 60))


class PairsErrorsTest(unittest.TestCase):

    def test_unlike_burdens(self):
        rows = [[0, 1]]
        fewer = Listener([1], [[(0, [[0, 0, 1]])]], [[[0, 1]]])
        lighter = Listener([1, 0], [[(0, [[0, 0, 1]]), (0, rows)]], [[[0, 1]]])
        turned = Listener([0, 1], [[(0, rows), (0, [[0, 0, 1]])]], [[[0, 1]]])
        more = Listener([1, 1, 0], [[(0, [[0, 0, 1]]), (0, [[0, 1, 1]]), (0, rows)]], [[[0, 1]]])
        for one, other in [(adder(), fewer), (adder(), lighter), (adder(), more), (lighter, turned), (adder(), counter())]:
            for first, second in [(one, other), (other, one)]:
                for sender in (steady(), anything()):
                    check_raises(self, Unlike, {}, alike_listeners, first, second, sender)
                    check_raises(self, Unlike, {}, pair_fault, first, second, sender, None)
                    check_raises(self, Unlike, {}, pair_run_fault, first, second, sender, None)

    def test_a_kind_that_they_do_not_have(self):
        for sender in (anything(), Sender([[(0, 0)], [(2, 1)]])):
            check_raises(self, Unlike, {}, alike_listeners, counter(), counter(), sender)
            check_raises(self, Unlike, {}, pair_fault, counter(), counter(), sender, [])
            check_raises(self, Unlike, {}, pair_run_fault, counter(), counter(), sender, [])

    def test_any_sender_without_such_a_kind_will_do(self):
        self.assertEqual(alike_listeners(adder(), negative(), Sender([[(0, 0)]])), ("alike", [(0, 0, 0, MIRRORED)]))


class PairsLeaveAloneTest(unittest.TestCase):

    def test_arguments_and_answers(self):
        one, other, sender = adder(), negative(), turns()
        table = alike_listeners(one, other, sender)[1]
        check_calls(self, [
            (alike_listeners, one, other, sender), (alike_listeners, one, wide(), sender), (pair_fault, one, other, sender, table),
            (pair_fault, one, other, sender, table[:1]), (pair_run_fault, one, other, sender, [(1, (5,))]),
            (alike_listeners, *late_difference(2), steady())])
        self.assertTrue(one == adder() and other == negative())
        self.assertEqual([sender.ways(state) for state in range(2)], [[(1, 1)], [(0, 0)]])


if __name__ == "__main__":
    unittest.main()
