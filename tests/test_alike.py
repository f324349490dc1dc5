"""Stands that look alike: the examples, the edges, the errors and what calls leave alone."""

import unittest

from latecomers.alike import forms_fault, forms_table, part_fault, parted
from latecomers.errors import NoStand, NoState, Unlike
from latecomers.late import level, when_sure
from latecomers.listeners import Listener
from latecomers.senders import Sender
from samples import (
    NO_INTEGERS, NO_LISTS, adder, anything, check_calls, check_raises, counter, odd_things, shifter, steady, turns)

EQUAL = [[0, 1, -1]]
NEVER = [[1, 0, 0]]
GREAT = 10 ** 60 - 1


def last_shown():
    """Three cells in a row as in shifter; the last of them is seen."""
    return Listener([1], [[(0, [[0, 0, 0, 0, 1], [0, 1, 0, 0, 0], [0, 0, 1, 0, 0]])]], [[[0, 0, 0, 1]]])


def mixed():
    """Three controls with two shows, one and none; kind 0 goes from each to the next, kind 1 stays; cells are kept."""
    return Listener([0, 0], [[(1, [[0, 1]]), (0, [[0, 1]])], [(2, [[0, 1]]), (1, [[0, 1]])], [(2, [[0, 1]]), (2, [[0, 1]])]],
                    [[[0, 1], [1, 0]], [[3, 1]], []])


def scaled():
    """Both controls show the cell; what is carried is taken once at control 0, and twice at control 1."""
    return Listener([1], [[(0, [[0, 0, 1]])], [(1, [[0, 0, 2]])]], [[[0, 1]], [[0, 1]]])


def halves():
    """Control 0 shows twice the cell, control 1 twice the cell plus 1; nothing changes."""
    return Listener([0], [[(0, [[0, 1]])], [(1, [[0, 1]])]], [[[0, 2]], [[1, 2]]])


class PartedTest(unittest.TestCase):

    def test_examples(self):
        self.assertEqual(parted(adder(), turns(), 0, (0, (1,)), (0, (2,))), [])
        self.assertIsNone(parted(adder(), turns(), 0, (0, (1,)), (0, (1,))))

    def test_equal_stands_are_alike(self):
        for listener, stand in [(adder(), (0, (GREAT,))), (last_shown(), (0, (1, -2, GREAT))), (mixed(), (1, (4,))),
                                (scaled(), (1, (0,)))]:
            self.assertIsNone(parted(listener, steady(), 0, stand, stand))

    def test_the_list_is_as_short_as_possible(self):
        for cells, other, length in [((1, 2, 3), (1, 2, 4), 0), ((1, 2, 3), (1, 5, 3), 1), ((1, 2, 3), (5, 2, 3), 2),
                                     ((1, 2, 3), (5, 6, 3), 1), ((GREAT, 2, 3), (-GREAT, 2, 3), 2)]:
            found = parted(last_shown(), steady(), 0, (0, cells), (0, other))
            self.assertEqual(len(found), length)
            self.assertIsNone(part_fault(last_shown(), steady(), 0, (0, cells), (0, other), found))

    def test_unlike_numbers_of_shows(self):
        self.assertEqual(parted(mixed(), anything(), 0, (0, (0,)), (1, (0,))), [])
        self.assertEqual(parted(mixed(), anything(), 0, (2, (0,)), (1, (-3,))), [])
        self.assertEqual(parted(mixed(), anything(), 0, (0, (0,)), (2, (0,))), [])

    def test_no_shows_at_all(self):
        for one, other in [((0, (1, 2, 3)), (0, (4, 5, 6))), ((0, (0, 0, 0)), (0, (GREAT, 0, 1)))]:
            self.assertIsNone(parted(shifter(), steady(), 0, one, other))
        self.assertIsNone(parted(counter(), steady(), 0, (0, (1, 1)), (2, (5, 6))))
        self.assertIsNone(parted(mixed(), anything(), 0, (2, (1,)), (2, (5,))))

    def test_unlike_controls_may_be_alike(self):
        self.assertIsNone(parted(counter(), steady(), 0, (0, (0, 0)), (1, (0, 0))))
        twins = Listener([1], [[(1, [[0, 1, 1]])], [(0, [[0, 1, 1]])]], [[[0, 1]], [[0, 1]]])
        self.assertIsNone(parted(twins, steady(), 0, (0, (7,)), (1, (7,))))
        self.assertEqual(parted(twins, steady(), 0, (0, (7,)), (1, (8,))), [])

    def test_only_what_is_carried_parts_them(self):
        found = parted(scaled(), steady(), 0, (0, (5,)), (1, (5,)))
        self.assertEqual(len(found), 1)
        self.assertNotEqual(found[0][1], (0,))
        self.assertIsNone(part_fault(scaled(), steady(), 0, (0, (5,)), (1, (5,)), found))

    def test_what_is_let_depends_on_the_state(self):
        # Cell 1 comes into the cell that is seen by kind 0 only; kind 1 forgets it.
        keep = [[0, 1, 0], [0, 0, 1]]
        listener = Listener([0, 0, 0], [[(0, [[0, 0, 1], [0, 0, 1]]), (0, [[0, 1, 0], [0, 0, 0]]), (0, keep)]], [[[0, 1, 0]]])
        sender = Sender([[(1, 0)], [(0, 1), (1, 0)]])
        one, other = (0, (3, 4)), (0, (3, 5))
        self.assertIsNone(parted(listener, sender, 0, one, other))
        self.assertEqual(parted(listener, sender, 1, one, other), [(0, ())])
        sender = Sender([[(2, 1)], [(0, 1)]])
        self.assertEqual(parted(listener, sender, 0, one, other), [(2, ()), (0, ())])
        sender = Sender([[(1, 1)], [(0, 1)]])
        self.assertIsNone(parted(listener, sender, 0, one, other))

    def test_a_state_that_cannot_be_reached_is_a_state_too(self):
        sender = Sender([[(0, 0)], [(1, 1)]])
        self.assertEqual(parted(adder(), sender, 1, (0, (1,)), (0, (2,))), [])
        self.assertIsNone(parted(adder(), sender, 1, (0, (1,)), (0, (1,))))

    def test_as_integers_the_stands_part_though_no_form_says_never(self):
        self.assertEqual(parted(halves(), steady(), 0, (0, (5,)), (1, (5,))), [])
        self.assertEqual(parted(halves(), steady(), 0, (0, (GREAT,)), (1, (-GREAT,))), [])

    def test_a_long_list(self):
        # The cells go round in three messages, and cell 0 is seen behind every second one.
        turn = [[0, 0, 1, 0], [0, 0, 0, 1], [0, 1, 0, 0]]
        listener = Listener([0], [[(1, turn)], [(0, turn)]], [[[0, 0, 0, 0]], [[0, 1, 0, 0]]])
        for one, length in [((0, (1, 0, 0)), 3), ((0, (0, 1, 0)), 1), ((0, (0, 0, 1)), 5), ((1, (0, 0, 0)), None)]:
            found = parted(listener, steady(), 0, one, (0, (0, 0, 0)))
            self.assertEqual(found, None if length is None else [(0, ())] * length)


class PartFaultTest(unittest.TestCase):

    def fault(self, thing, state=0, one=(0, (1,)), other=(0, (2,))):
        return part_fault(adder(), turns(), state, one, other, thing)

    def test_without_fault(self):
        self.assertIsNone(self.fault([]))
        self.assertIsNone(self.fault([(1, (5,))]))
        self.assertIsNone(self.fault([], 1))
        self.assertIsNone(part_fault(last_shown(), steady(), 0, (0, (1, 0, 0)), (0, (0, 0, 0)), [(0, (4,)), (0, (5,))]))

    def test_form(self):
        good = (1, (0,))
        for thing in [*[item for item in odd_things() if item != []], *NO_LISTS, (good,), {0: good}, [None], [good, None],
                      [[1, (0,)]], [(1, [0])], [(1,)], [(1, (0,), 0)], [(2, (0,))], [(-1, (0,))], [(1, ())], [(1, (0, 0))],
                      [good, (0, ())], *[[(bad, (0,))] for bad in NO_INTEGERS], *[[(1, (bad,))] for bad in NO_INTEGERS],
                      *[[good, good, (1, (bad,))] for bad in NO_INTEGERS]]:
            with self.subTest(thing=thing):
                self.assertEqual(self.fault(thing), ("form",))
                self.assertEqual(self.fault(thing, 1, (0, (1,)), (0, (1,))), ("form",))

    def test_way(self):
        set_it, add = (0, (5,)), (1, (5,))
        for state, thing, index in [(0, [set_it], 0), (1, [add], 0), (0, [add, add], 1), (1, [set_it, add, add, set_it], 2),
                                    (0, [add, set_it, set_it], 2), (1, [set_it, set_it], 1)]:
            self.assertEqual(self.fault(thing, state), ("way", index))
        # It is let from the other state.
        self.assertEqual(self.fault([set_it, add], 0), ("way", 0))
        self.assertEqual(self.fault([set_it, add], 1), ("kept",))
        self.assertEqual(self.fault([add, set_it], 1), ("way", 0))
        self.assertEqual(self.fault([add, set_it], 0), ("kept",))

    def test_kept(self):
        self.assertEqual(self.fault([], 0, (0, (1,)), (0, (1,))), ("kept",))
        self.assertEqual(self.fault([(1, (5,)), (0, (1,))]), ("kept",))
        self.assertEqual(self.fault([(0, (5,))], 1), ("kept",))
        self.assertEqual(part_fault(scaled(), steady(), 0, (0, (5,)), (1, (5,)), [(0, (0,))]), ("kept",))
        self.assertIsNone(part_fault(scaled(), steady(), 0, (0, (5,)), (1, (5,)), [(0, (3,))]))
        self.assertIsNone(part_fault(mixed(), anything(), 0, (0, (0,)), (1, (0,)), []))
        self.assertEqual(part_fault(mixed(), anything(), 0, (0, (0,)), (1, (0,)), [(0, ()), (0, ())]), ("kept",))

    def test_sixty_messages_with_great_numbers(self):
        messages = [(1, (GREAT,)), (0, (-GREAT,))] * 30
        self.assertEqual(self.fault(messages, 0, (0, (GREAT,)), (0, (-GREAT,))), ("kept",))
        self.assertIsNone(self.fault(messages[:1], 0, (0, (GREAT,)), (0, (-GREAT,))))


class FormsTableTest(unittest.TestCase):

    def test_examples(self):
        self.assertEqual(forms_table(adder(), anything()), {(0, 0, 0): EQUAL})

    def test_all_keys(self):
        self.assertEqual(forms_table(adder(), turns()), {(0, 0, 0): EQUAL, (1, 0, 0): EQUAL})
        table = forms_table(mixed(), Sender([[(0, 0)], [(1, 1)]]))
        self.assertEqual(sorted(table), [(state, one, other) for state in range(2) for one in range(3) for other in range(3)])

    def test_no_shows_at_all(self):
        self.assertEqual(forms_table(shifter(), steady()), {(0, 0, 0): []})
        self.assertEqual(forms_table(counter(), steady()), {(0, one, other): [] for one in range(3) for other in range(3)})

    def test_unlike_numbers_of_shows(self):
        table = forms_table(mixed(), anything())
        for (state, one, other), forms in table.items():
            if one != other:
                self.assertTrue([1, 0, 0] in forms)
        self.assertEqual((table[0, 0, 0], table[0, 1, 1], table[0, 2, 2]), (EQUAL, EQUAL, []))

    def test_what_is_seen_later(self):
        self.assertEqual(forms_table(last_shown(), steady()), {(0, 0, 0): [
            [0, 1, 0, 0, -1, 0, 0], [0, 0, 1, 0, 0, -1, 0], [0, 0, 0, 1, 0, 0, -1]]})

    def test_what_is_carried(self):
        self.assertEqual(forms_table(scaled(), steady()), {
            (0, 0, 0): EQUAL, (0, 1, 1): EQUAL, (0, 0, 1): [[1, 0, 0], [0, 1, -1]], (0, 1, 0): [[1, 0, 0], [0, 1, -1]]})

    def test_never_goes_back_along_the_ways(self):
        # The controls 0 and 1 part at the next message, where 2 sees nothing.
        listener = Listener([0], [[(1, [[0, 1]])], [(2, [[0, 1]])], [(2, [[0, 1]])]], [[[0, 0]], [[0, 0]], []])
        table = forms_table(listener, steady())
        self.assertEqual({key: NEVER[0] in table[key] for key in table},
                         {(0, one, other): one != other for one in range(3) for other in range(3)})
        self.assertEqual(table[0, 0, 1], NEVER)

    def test_no_integers_vanish_though_never_is_not_in_it(self):
        self.assertEqual(forms_table(halves(), steady()), {
            (0, 0, 0): EQUAL, (0, 1, 1): EQUAL, (0, 0, 1): [[1, -2, 2]], (0, 1, 0): [[1, 2, -2]]})

    def test_it_depends_on_the_state(self):
        listener = Listener([0, 0], [[(0, [[0, 0, 1], [0, 0, 1]]), (0, [[0, 1, 0], [0, 0, 0]])]], [[[0, 1, 0]]])
        first, second = [0, 1, 0, -1, 0], [0, 0, 1, 0, -1]
        self.assertEqual(forms_table(listener, Sender([[(1, 0)], [(0, 1)]])), {(0, 0, 0): [first], (1, 0, 0): [first, second]})

    def test_it_may_be_handed_in_as_joint_claims(self):
        for listener, sender in [(adder(), turns()), (last_shown(), steady()), (mixed(), anything()), (scaled(), steady())]:
            claims = forms_table(listener, sender)
            self.assertIn(when_sure(listener, sender, claims)[0], ("from", "never"))
            self.assertIsNone(forms_fault(listener, sender, claims))
        self.assertEqual(when_sure(last_shown(), steady(), forms_table(last_shown(), steady()))[:2], ("from", 3))


class FormsFaultTest(unittest.TestCase):

    def fault(self, thing):
        return forms_fault(adder(), turns(), thing)

    def test_without_fault(self):
        whole = [[1, 0, 0], [0, 1, 0], [0, 0, 1]]
        for one in (EQUAL, [[1, 0, 0], [0, 1, -1]], whole):
            self.assertIsNone(self.fault({(0, 0, 0): one, (1, 0, 0): one}))
        self.assertIsNone(forms_fault(shifter(), steady(), {(0, 0, 0): []}))

    def test_form(self):
        good = forms_table(adder(), turns())
        things = [*odd_things(), *NO_LISTS, [], list(good), list(good.items()), {}, {(0, 0, 0): EQUAL}, {**good, (2, 0, 0): EQUAL},
                  {**good, (0, 0, 1): EQUAL}, {**good, None: EQUAL}, {(0, 0, 0): EQUAL, (1, 0): EQUAL},
                  {(0, 0, 0): EQUAL, (0, 1, 0): EQUAL}, {(0, 0, 0): EQUAL, "100": EQUAL}, {(0, 0): EQUAL, (1, 0): EQUAL}]
        bases = [None, 0, "ab", (), {}, ([0, 1, -1],), [None], [(0, 1, -1)], [[0, 1]], [[0, 1, -1, 0]], [[]], [[0, 0, 0]],
                 [[0, -1, 1]], [[0, 2, -2]], [[0, 1, 0], [1, 0, 0]], [[1, 1, 0], [0, 1, 0]], [[0, 1, -1], [0, 1, -1]],
                 *[[[0, bad, -1]] for bad in NO_INTEGERS], *[[[bad, 1, -1]] for bad in NO_INTEGERS], [[1]], adder(), [adder()]]
        for basis in bases:
            things += [{**good, (0, 0, 0): basis}, {**good, (1, 0, 0): basis}]
        for thing in things:
            with self.subTest(thing=thing):
                self.assertEqual(self.fault(thing), ("form",))

    def test_shows(self):
        self.assertEqual(self.fault({(0, 0, 0): [], (1, 0, 0): []}), ("shows", 0, 0, 0))
        self.assertEqual(self.fault({(0, 0, 0): EQUAL, (1, 0, 0): []}), ("shows", 1, 0, 0))
        self.assertEqual(self.fault({(0, 0, 0): [[0, 1, 0]], (1, 0, 0): EQUAL}), ("shows", 0, 0, 0))
        good = forms_table(mixed(), anything())
        for key in good:
            for basis in ([], [[0, 1, -1]] if key[1] != key[2] else [[1, 0, 0]]):
                expected = ("shows", *key) if key != (0, 2, 2) else None
                fault = forms_fault(mixed(), anything(), {**good, key: basis})
                if basis == [] or key != (0, 2, 2):
                    self.assertEqual(fault, expected)
        # Each of the two shows counts.
        two = Listener([0], [[(0, [[0, 1, 0], [0, 0, 1]])]], [[[0, 1, 0], [5, 0, 1]]])
        one, other = [0, 1, 0, -1, 0], [0, 0, 1, 0, -1]
        self.assertIsNone(forms_fault(two, steady(), {(0, 0, 0): [one, other]}))
        for basis in ([one], [other], [[0, 1, 1, -1, -1]]):
            self.assertEqual(forms_fault(two, steady(), {(0, 0, 0): basis}), ("shows", 0, 0, 0))

    def test_closed(self):
        # (b): what is seen behind a message must be in the space of before.
        good = forms_table(last_shown(), steady())[0, 0, 0]
        self.assertEqual(forms_fault(last_shown(), steady(), {(0, 0, 0): good[2:]}), ("closed", 0, 0, 0, 0, 0))
        self.assertEqual(forms_fault(last_shown(), steady(), {(0, 0, 0): good[1:]}), ("closed", 0, 0, 0, 0, 0))
        self.assertIsNone(forms_fault(last_shown(), steady(), {(0, 0, 0): good}))
        # (c): only the integer that is carried differs.
        table = forms_table(scaled(), steady())
        for key in ((0, 0, 1), (0, 1, 0)):
            self.assertEqual(forms_fault(scaled(), steady(), {**table, key: EQUAL}), ("closed", *key, 0, 0))
        self.assertEqual(forms_fault(scaled(), steady(), {**table, (0, 0, 0): [[0, 1, 0], [0, 0, 1]]}), ("closed", 0, 0, 0, 0, 0))
        # [1, 0, .., 0] goes back along every way, from whatever state it is at.
        self.assertEqual(self.fault({(0, 0, 0): EQUAL, (1, 0, 0): [[1, 0, 0], [0, 1, -1]]}), ("closed", 0, 0, 0, 1, 1))
        self.assertEqual(self.fault({(1, 0, 0): EQUAL, (0, 0, 0): [[1, 0, 0], [0, 1, -1]]}), ("closed", 1, 0, 0, 0, 0))

    def test_the_first_key_and_its_first_way(self):
        never = [[1, 0, 0], [0, 1, -1]]
        sender = Sender([[(0, 1), (1, 0), (1, 1)], [(0, 0), (1, 1)]])
        self.assertEqual(forms_fault(adder(), sender, {(0, 0, 0): EQUAL, (1, 0, 0): never}), ("closed", 0, 0, 0, 0, 1))
        self.assertEqual(forms_fault(adder(), sender, {(0, 0, 0): never, (1, 0, 0): EQUAL}), ("closed", 1, 0, 0, 0, 0))
        sender = Sender([[(1, 0), (1, 1)], [(0, 1), (1, 1)]])
        self.assertEqual(forms_fault(adder(), sender, {(0, 0, 0): EQUAL, (1, 0, 0): never}), ("closed", 0, 0, 0, 1, 1))
        self.assertIsNone(forms_fault(adder(), sender, {(0, 0, 0): never, (1, 0, 0): EQUAL}))

    def test_the_first_fault_counts(self):
        never = [[1, 0, 0], [0, 1, -1]]
        self.assertEqual(self.fault({(0, 0, 0): EQUAL, (1, 0, 0): [[1, 0, 0]]}), ("shows", 1, 0, 0))
        self.assertEqual(self.fault({(0, 0, 0): [], (1, 0, 0): [[2, 0, 0]]}), ("form",))
        self.assertEqual(self.fault({(0, 0, 0): EQUAL, (1, 0, 0): never}), ("closed", 0, 0, 0, 1, 1))

    def test_great_numbers(self):
        great = 10 ** 1999 + 7
        still = Listener([0], [[(0, [[0, 1, 0], [0, 0, 1]])]], [[]])
        self.assertIsNone(forms_fault(still, steady(), {(0, 0, 0): [[0, great, great + 1, 0, 0], [0, 0, 0, great, great + 2]]}))
        self.assertEqual(forms_fault(counter(), steady(), {
            (0, one, other): [[0, great, great + 1, 0, 0]] for one in range(3) for other in range(3)}),
            ("closed", 0, 0, 0, 0, 0))


class AlikeErrorsTest(unittest.TestCase):

    def test_state(self):
        stand = (0, (0,))
        for bad in [*NO_INTEGERS, -1, 2, 10 ** 60]:
            for other in (stand, None):
                with self.subTest(bad=bad):
                    check_raises(self, NoState, {}, parted, adder(), turns(), bad, other, stand)
                    check_raises(self, NoState, {}, parted, adder(), turns(), bad, stand, other)
                    check_raises(self, NoState, {}, part_fault, adder(), turns(), bad, other, stand, None)
        check_raises(self, NoState, {}, parted, adder(), steady(), 1, stand, stand)

    def test_stands(self):
        good = (0, (0,))
        for bad in [None, 0, "ab", [], [0, (0,)], (), (0,), (0, (0,), 0), (0, [0]), (0, ()), (0, (0, 0)), (1, (0,)), (-1, (0,)),
                    (0, 0), {0: 0}, *[(item, (0,)) for item in NO_INTEGERS], *[(0, (item,)) for item in NO_INTEGERS]]:
            with self.subTest(bad=bad):
                for one, other in [(bad, good), (good, bad), (bad, bad)]:
                    check_raises(self, NoStand, {}, parted, adder(), turns(), 0, one, other)
                    check_raises(self, NoStand, {}, part_fault, adder(), turns(), 1, one, other, [])
                    check_raises(self, NoStand, {}, part_fault, adder(), turns(), 1, one, other, None)

    def test_unlike_comes_first(self):
        sender = Sender([[(0, 0), (1, 0)]])
        for function, arguments in [(parted, (None, None, None)), (parted, (0, (0, (0, 0)), (0, (0, 0)))),
                                    (part_fault, (None, None, None, None)), (forms_table, ()), (forms_fault, (None,)),
                                    (forms_fault, ({},))]:
            check_raises(self, Unlike, {}, function, counter(), sender, *arguments)


class AlikeLeavesAloneTest(unittest.TestCase):

    def test_arguments_and_answers(self):
        listener, sender = last_shown(), steady()
        one, other = (0, (1, 2, 3)), (0, (4, 2, 3))
        messages = [(0, (1,)), (0, (2,))]
        table = forms_table(listener, sender)
        check_calls(self, [
            (parted, listener, sender, 0, one, other), (parted, listener, sender, 0, one, one),
            (part_fault, listener, sender, 0, one, other, messages), (forms_table, listener, sender),
            (forms_fault, listener, sender, table), (forms_table, mixed(), anything()), (forms_table, scaled(), steady()),
            (forms_fault, listener, sender, {(0, 0, 0): table[0, 0, 0][1:]})])
        self.assertTrue(listener == last_shown())
        self.assertEqual(sender.ways(0), [(0, 0)])

    def test_level_claims_are_greater_than_the_forms(self):
        # Cells that are level are alike, whatever is seen.
        for listener, sender in [(adder(), turns()), (last_shown(), steady())]:
            cells = list(range(listener.cell_count()))
            self.assertEqual(forms_table(listener, sender), level(listener, sender, cells))


if __name__ == "__main__":
    unittest.main()
