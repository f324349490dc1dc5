"""Latecomers: the examples, the edges, the errors and what calls leave alone."""

import copy
import unittest

import reference
from latecomers.errors import NoCells, NoClaims, NoMany, Unlike
from latecomers.late import after, entries, last_claims, late_run, level, sure_cells, when_sure
from latecomers.listeners import Listener
from latecomers.reach import reach
from latecomers.senders import Sender
from samples import NO_INTEGERS, NO_LISTS, adder, anything, counter, lists_in, pair, shifter, steady, turns

WHOLE = [[1, 0, 0], [0, 1, 0], [0, 0, 1]]
LEVEL = [[1, 0, 0], [0, 1, 1]]


def both_once():
    """Emits kind 1 and kind 0 in turn, kind 1 first."""
    return Sender([[(1, 1)], [(0, 0)]])


def no_claims(listener, sender):
    return level(listener, sender, [], controls=False)


class EntriesTest(unittest.TestCase):

    def test_the_late_one_may_be_anywhere(self):
        self.assertEqual(entries(adder(), turns()), [(0, 0, 0, WHOLE), (1, 0, 0, WHOLE)])

    def test_the_one_is_where_it_can_get(self):
        late = [[0, 0, 0, 1, 0], [0, 0, 0, 0, 1]]
        there = [[1, 0, 0, 0, 0], [0, 1, 2, 0, 0]]
        self.assertEqual(entries(counter(), steady()),
                         [(0, control, other, there + late) for control in range(2) for other in range(3)])

    def test_a_key_that_is_not_reached_has_no_entries(self):
        table = entries(counter(), Sender([[(0, 1)], [(0, 0)]]))
        self.assertEqual([item[:3] for item in table],
                         [(state, state, other) for state in range(2) for other in range(3)])
        still = Listener([0], [[(0, [[0, 1]])]], [[]])
        self.assertEqual(entries(still, steady()), [(0, 0, 0, [[1, 0, 0], [0, 0, 1]])])


class AfterTest(unittest.TestCase):

    def test_examples(self):
        self.assertEqual(after(adder(), turns(), 1), [
            (0, 0, 0, [[1, 0, 0], [0, 1, 1]]), (1, 0, 0, [[1, 0, 0], [0, 1, 0], [0, 0, 1]])])

    def test_behind_no_message_it_is_the_table_of_the_entries(self):
        for listener, sender in [(adder(), turns()), (counter(), steady()), (pair(), both_once())]:
            self.assertEqual(after(listener, sender, 0), entries(listener, sender))

    def test_behind_two_hundred_messages(self):
        self.assertEqual(after(adder(), turns(), 200), [(0, 0, 0, LEVEL), (1, 0, 0, LEVEL)])
        self.assertEqual(after(adder(), anything(), 200), [(0, 0, 0, WHOLE)])
        nine = Listener([2], [[(0, [[9, 9, 9, 9, 9, 9], [9, -9, 9, 9, 9, -9], [-9, 9, 9, 9, 0, 9]])]], [[]])
        self.assertEqual(after(nine, steady(), 200), after(nine, steady(), 60))

    def test_both_hear_the_same_integers(self):
        self.assertEqual(after(shifter(), steady(), 2), [(0, 0, 0, [
            [1, 0, 0, 0, 0, 0, 0], [0, 1, 0, 0, 1, 0, 0], [0, 0, 1, 0, 0, 1, 0], [0, 0, 0, 1, 0, 0, 0],
            [0, 0, 0, 0, 0, 0, 1]])])
        self.assertEqual(after(shifter(), steady(), 3), [(0, 0, 0, [
            [1, 0, 0, 0, 0, 0, 0], [0, 1, 0, 0, 1, 0, 0], [0, 0, 1, 0, 0, 1, 0], [0, 0, 0, 1, 0, 0, 1]])])
        self.assertEqual(after(shifter(), steady(), 4), after(shifter(), steady(), 3))

    def test_a_key_that_no_way_leads_to_does_not_occur(self):
        # Behind one message of any kind the late one is where its control was or at 1.
        self.assertEqual([item[:3] for item in after(pair(), both_once(), 1)],
                         [(0, 1, 1), (1, 0, 0), (1, 0, 1), (1, 1, 0), (1, 1, 1)])
        self.assertEqual([item[:3] for item in after(pair(), both_once(), 2)],
                         [(0, 1, 1), (1, 1, 1)])
        self.assertEqual(after(pair(), both_once(), 2), [(0, 1, 1, LEVEL), (1, 1, 1, LEVEL)])
        once = Sender([[(0, 1)], [(0, 1)]])
        self.assertEqual([item[:3] for item in entries(adder(), once)], [(0, 0, 0), (1, 0, 0)])
        self.assertEqual(after(adder(), once, 1), [(1, 0, 0, LEVEL)])

    def test_each_table_lies_in_the_one_before(self):
        for listener, sender in [(adder(), turns()), (counter(), steady()), (pair(), both_once()), (shifter(), steady())]:
            tables = [reference.as_dict(after(listener, sender, many)) for many in range(8)]
            for before, behind in zip(tables, tables[1:]):
                for key, basis in behind.items():
                    self.assertTrue(reference.lies_in(basis, before[key]))


class LevelTest(unittest.TestCase):

    def test_one_form_for_each_cell_where_the_controls_are_equal(self):
        unlike = [[1, 0, 0, 0, 0]]
        equal = [[0, 1, 0, -1, 0], [0, 0, 1, 0, -1]]
        sender = Sender([[(0, 1)], [(0, 0)]])
        keys = [(state, one, other) for state in range(2) for one in range(3) for other in range(3)]
        for cells, forms in [([0, 1], equal), ([0], equal[:1]), ([1], equal[1:]), ([], [])]:
            expected = {key: forms if key[1] == key[2] else unlike for key in keys}
            self.assertEqual(level(counter(), sender, cells), expected)
            self.assertEqual(level(counter(), sender, cells, controls=True), expected)
            self.assertEqual(level(counter(), sender, cells, controls=False), {key: forms for key in keys})

    def test_three_cells(self):
        forms = [[0, 1, 0, 0, -1, 0, 0], [0, 0, 1, 0, 0, -1, 0], [0, 0, 0, 1, 0, 0, -1]]
        self.assertEqual(level(shifter(), steady(), [0, 1, 2]), {(0, 0, 0): forms})
        self.assertEqual(level(shifter(), steady(), [0, 2]), {(0, 0, 0): forms[::2]})

    def test_the_flag_is_passed_by_keyword(self):
        with self.assertRaises(TypeError):
            level(adder(), turns(), [0], False)


class WhenSureTest(unittest.TestCase):

    def test_examples(self):
        self.assertEqual(when_sure(adder(), turns(), level(adder(), turns(), [0]))[1], 2)
        self.assertEqual(when_sure(adder(), anything(), level(adder(), anything(), [0])),
                         ("never", [(0, 0, 0, [[1, 0, 0], [0, 1, 0], [0, 0, 1]])]))

    def test_from_returns_all_tables_up_to_the_number(self):
        word, least, tables = when_sure(adder(), turns(), level(adder(), turns(), [0]))
        self.assertEqual((word, least), ("from", 2))
        self.assertEqual(tables, [after(adder(), turns(), many) for many in range(3)])

    def test_claims_that_hold_at_once(self):
        for claims in (no_claims(adder(), turns()), {(0, 0, 0): [[0, 0, 0]], (1, 0, 0): [[0, 0, 0]] * 7}):
            self.assertEqual(when_sure(adder(), turns(), claims), ("from", 0, [entries(adder(), turns())]))
        claims = {(0, 0, 0): [[0, 1, 0]]}
        still = Listener([0], [[(0, [[0, 1]])]], [[]])
        self.assertEqual(when_sure(still, steady(), claims), ("from", 0, [entries(still, steady())]))

    def test_claims_at_keys_that_do_not_occur_do_not_matter(self):
        claims = no_claims(pair(), both_once())
        for key in claims:
            if key not in [(0, 1, 1), (1, 1, 1)]:
                claims[key] = [[1, 0, 0]]
        self.assertEqual(when_sure(pair(), both_once(), claims)[:2], ("from", 2))
        claims = no_claims(counter(), steady())
        for other in range(3):
            claims[0, 2, other] = [[1, 0, 0, 0, 0]]
        self.assertEqual(when_sure(counter(), steady(), claims)[:2], ("from", 0))

    def test_each_cell_of_a_row_of_cells_is_right_one_message_later(self):
        for cells, least in [([], 0), ([0], 1), ([1], 2), ([2], 3), ([0, 1], 2), ([0, 2], 3), ([0, 1, 2], 3)]:
            self.assertEqual(when_sure(shifter(), steady(), level(shifter(), steady(), cells))[:2], ("from", least))

    def test_unlike_controls_are_never_level(self):
        claims = level(counter(), steady(), [])
        word, table = when_sure(counter(), steady(), claims)
        self.assertEqual((word, table), ("never", after(counter(), steady(), 200)))
        self.assertEqual(when_sure(pair(), both_once(), level(pair(), both_once(), []))[:2], ("from", 2))
        self.assertEqual(when_sure(pair(), both_once(), level(pair(), both_once(), [], controls=False))[:2], ("from", 0))

    def test_other_joint_claims(self):
        # The late one is always as far from the one as it was when it joined.
        still = Listener([0], [[(0, [[1, 1]])]], [[]])
        self.assertEqual(when_sure(still, steady(), {(0, 0, 0): [[1, 1, -1]]})[0], "never")
        set_two = Listener([0], [[(0, [[2, 0]])]], [[]])
        self.assertEqual(when_sure(set_two, steady(), {(0, 0, 0): [[-2, 1, 0], [-4, 1, 1]]})[:2], ("from", 1))

    def test_claims_with_great_numbers(self):
        great = 10 ** 2000 - 1
        claims = {(0, 0, 0): [[0, great, -great]] * 7, (1, 0, 0): [[0, -great, great]]}
        self.assertEqual(when_sure(adder(), turns(), claims)[:2], ("from", 2))
        claims[1, 0, 0] = [[0, great, 1 - great]]
        self.assertEqual(when_sure(adder(), turns(), claims), ("never", after(adder(), turns(), 9)))


class LateRunTest(unittest.TestCase):

    def assert_broken(self, parts, ways, claims, many, found):
        self.assertIsNone(reference.late_fault(ways, parts, claims, many, found))

    def test_none_from_the_number_on_at_which_the_claims_are_sure(self):
        claims = level(adder(), turns(), [0])
        parts = ([1, 1], [[(0, [[0, 0, 1]]), (0, [[0, 1, 1]])]], [[[0, 1]]])
        for many in (0, 1):
            self.assert_broken(parts, [[(1, 1)], [(0, 0)]], claims, many, late_run(adder(), turns(), claims, many))
        for many in (2, 3, 50, 200):
            self.assertIsNone(late_run(adder(), turns(), claims, many))

    def test_never_sure(self):
        claims = level(adder(), anything(), [0])
        parts = ([1, 1], [[(0, [[0, 0, 1]]), (0, [[0, 1, 1]])]], [[[0, 1]]])
        for many in (0, 1, 7, 200):
            found = late_run(adder(), anything(), claims, many)
            self.assertEqual(len(found[2]), many)
            self.assert_broken(parts, [[(0, 0), (1, 0)]], claims, many, found)

    def test_a_claim_that_only_carried_integers_break(self):
        parts = ([1], [[(0, [[0, 0, 1]])]], [[]])
        claims = {(0, 0, 0): [[0, 1, 0]]}
        for many in (1, 2, 5):
            self.assert_broken(parts, [[(0, 0)]], claims, many, late_run(Listener(*parts), steady(), claims, many))
        claims = {(0, 0, 0): [[0, 1, 1]]}
        for many in (0, 1, 2, 5):
            self.assert_broken(parts, [[(0, 0)]], claims, many, late_run(Listener(*parts), steady(), claims, many))
        claims = {(0, 0, 0): [[0, 1, -1]]}
        self.assertEqual([late_run(Listener(*parts), steady(), claims, many) for many in (1, 2, 200)], [None] * 3)

    def test_a_claim_that_only_a_run_before_breaks(self):
        step = [[1, 1, 0], [2, 0, 1]]
        parts = ([0], [[(1, step)], [(0, step)], [(2, [[0, 1, 0], [0, 0, 1]])]], [[], [], []])
        claims = no_claims(counter(), steady())
        claims[0, 1, 0] = [[-1, 1, 0, 0, 0]]
        found = late_run(counter(), steady(), claims, 0)
        self.assertTrue(found[0])
        self.assert_broken(parts, [[(0, 0)]], claims, 0, found)

    def test_no_claims(self):
        for many in (0, 3, 200):
            self.assertIsNone(late_run(adder(), turns(), no_claims(adder(), turns()), many))


class SureCellsTest(unittest.TestCase):

    def test_examples(self):
        self.assertEqual(sure_cells(adder(), turns()), [2])

    def test_several_cells(self):
        self.assertEqual(sure_cells(shifter(), steady()), [1, 2, 3])
        self.assertEqual(sure_cells(adder(), anything()), [None])
        mixed = Listener([1], [[(0, [[0, 0, 0, 0, 1], [1, 0, 1, 0, 0], [3, 0, 0, 0, 0]])]], [[]])
        self.assertEqual(sure_cells(mixed, steady()), [1, None, 1])

    def test_unlike_controls_do_not_matter(self):
        same = [[0, 0, 1]]
        listener = Listener([1], [[(1, same)], [(0, same)]], [[], []])
        self.assertEqual(sure_cells(listener, steady()), [1])


class LastClaimsTest(unittest.TestCase):

    def test_examples(self):
        self.assertEqual(last_claims(adder(), turns()), {(0, 0, 0): [[0, 1, -1]], (1, 0, 0): [[0, 1, -1]]})

    def test_nothing_holds_for_ever(self):
        self.assertEqual(last_claims(adder(), anything()), {(0, 0, 0): []})

    def test_every_form_at_a_key_that_does_not_occur(self):
        expected = {(state, one, other): [[0, 1, -1]] if (one, other) == (1, 1) else WHOLE
                    for state in range(2) for one in range(2) for other in range(2)}
        self.assertEqual(last_claims(pair(), both_once()), expected)

    def test_they_may_be_handed_in_as_joint_claims(self):
        for listener, sender in [(adder(), turns()), (pair(), both_once()), (shifter(), steady())]:
            claims = last_claims(listener, sender)
            word, least, tables = when_sure(listener, sender, claims)
            self.assertEqual(word, "from")
            self.assertEqual(tables[-1], after(listener, sender, 200))


class LateErrorsTest(unittest.TestCase):

    def test_many(self):
        claims = level(adder(), turns(), [0])
        for many in [*NO_INTEGERS, -1, 201, 10 ** 60, 2.0, "3", [1]]:
            with self.subTest(many=many):
                self.assertRaises(NoMany, after, adder(), turns(), many)
                self.assertRaises(NoMany, late_run, adder(), turns(), claims, many)

    def test_cells(self):
        for bad in [*NO_LISTS, (0, 1), [1, 0], [0, 0], [1, 1], [0, 2], [-1], [-1, 0], [2], [10 ** 60], [0, 1, 1], [0, 1, 2],
                    *[[bad] for bad in NO_INTEGERS], *[[0, bad] for bad in NO_INTEGERS], [None, 0], "01", [[0]]]:
            with self.subTest(bad=bad):
                self.assertRaises(NoCells, level, counter(), steady(), bad)
                self.assertRaises(NoCells, level, counter(), steady(), bad, controls=False)

    def bad_claims(self):
        """Return values that are no joint claims of the listener pair and the sender both_once."""
        good = level(pair(), both_once(), [0])
        bads = [*NO_LISTS, list(good.values()), list(good), [], [[]], {}, {(0, 0, 0): []}]
        for key in good:
            bads.append({other: forms for other, forms in good.items() if other != key})
        for more in [(2, 0, 0), (0, 2, 0), (0, 0, -1), (0, 0), (0, 0, 0, 0), None, "000", 0]:
            bads.append({**good, more: []})
            bads.append({**{other: forms for other, forms in good.items() if other != (0, 1, 0)}, more: []})
        for forms in [*NO_LISTS, ([0, 0, 0],), [[0, 0, 0]] * 8, [[0, 0]], [[0, 0, 0, 0]], [[]], [(0, 0, 0)], [None], ["000"],
                      [[0, 0, 0], None], {0: [0, 0, 0]}, *[[[0, 0, bad]] for bad in NO_INTEGERS]]:
            bads.append({**good, (1, 1, 0): forms})
            bads.append({**good, (0, 0, 0): forms})
        return bads

    def test_claims(self):
        for bad in self.bad_claims():
            with self.subTest(bad=bad):
                self.assertRaises(NoClaims, when_sure, pair(), both_once(), bad)
                self.assertRaises(NoClaims, late_run, pair(), both_once(), bad, 3)
                self.assertRaises(NoClaims, late_run, pair(), both_once(), bad, None)

    def test_seven_forms_are_not_too_many(self):
        claims = {key: [[0, 0, 0]] * 7 for key in level(pair(), both_once(), [])}
        self.assertEqual(when_sure(pair(), both_once(), claims)[:2], ("from", 0))
        self.assertIsNone(late_run(pair(), both_once(), claims, 0))

    def test_unlike_comes_first(self):
        sender = Sender([[(0, 0), (1, 0)]])
        for function, arguments in [
                (entries, ()), (after, (3,)), (after, (None,)), (level, ([0],)), (level, (None,)), (when_sure, (None,)),
                (late_run, (None, None)), (late_run, ({}, 3)), (sure_cells, ()), (last_claims, ())]:
            with self.subTest(function=function.__name__, arguments=arguments):
                self.assertRaises(Unlike, function, counter(), sender, *arguments)


class LateLeavesAloneTest(unittest.TestCase):

    def calls(self):
        claims = level(pair(), both_once(), [0])
        hopeless = {key: [[1, 0, 0], [0, 1, 1]] for key in claims}
        return [(entries, ()), (after, (0,)), (after, (1,)), (after, (2,)), (after, (9,)), (level, ([0],)), (level, ([],)),
                (when_sure, (claims,)), (when_sure, (hopeless,)), (late_run, (claims, 1)), (late_run, (hopeless, 0)),
                (late_run, (hopeless, 5)), (sure_cells, ()), (last_claims, ())]

    def test_arguments_stay(self):
        listener, sender = pair(), both_once()
        for function, arguments in self.calls():
            before = copy.deepcopy(arguments)
            function(listener, sender, *arguments)
            self.assertEqual(arguments, before)
        self.assertTrue(listener == pair())
        self.assertEqual([sender.ways(state) for state in range(2)], [[(1, 1)], [(0, 0)]])

    def test_what_is_returned_belongs_to_the_caller(self):
        listener, sender = pair(), both_once()
        for function, arguments in self.calls():
            with self.subTest(function=function.__name__, arguments=arguments):
                first = function(listener, sender, *arguments)
                kept, before = copy.deepcopy(first), copy.deepcopy(arguments)
                found = lists_in(first)
                self.assertEqual(len({id(item) for item in found}), len(found))
                self.assertFalse({id(item) for item in found} & {id(item) for item in lists_in(list(arguments))})
                for item in found:
                    item.append(99)
                    item.reverse()
                if isinstance(first, dict):
                    first.clear()
                self.assertEqual(function(listener, sender, *arguments), kept)
                self.assertEqual(arguments, before)

    def test_every_table_that_when_sure_returns_is_new(self):
        # Behind two messages the first key has the space that it has behind one.
        _, _, tables = when_sure(adder(), turns(), level(adder(), turns(), [0]))
        self.assertEqual(tables[1][0], tables[2][0])
        tables[1][0][3][0].append(1)
        self.assertEqual(tables[2][0], (0, 0, 0, LEVEL))
        reached = reach(adder(), turns())
        reached[0][2].clear()
        self.assertEqual(entries(adder(), turns())[0], (0, 0, 0, WHOLE))

    def test_calls_do_not_depend_on_those_before(self):
        listener, sender = pair(), both_once()
        first = [function(listener, sender, *arguments) for function, arguments in self.calls()]
        again = [function(listener, sender, *arguments) for function, arguments in self.calls()[::-1]]
        self.assertEqual(first, again[::-1])


if __name__ == "__main__":
    unittest.main()
