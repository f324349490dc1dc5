"""What always holds: the examples, the edges, the errors and what calls leave alone."""

import copy
import unittest

from latecomers.errors import NoClaims, Unlike
from latecomers.listeners import Listener
from latecomers.reach import reach, run_fault, settle, table_fault
from latecomers.senders import Sender
from samples import KEEP, NO_INTEGERS, NO_LISTS, adder, anything, counter, lists_in, shifter, turns

PLANE = [[1, 0], [0, 1]]
STEADY = [(0, 0)]


class ReachTest(unittest.TestCase):

    def test_examples(self):
        self.assertEqual(reach(adder(), turns()), [(0, 0, [[1, 0], [0, 1]]), (1, 0, [[1, 0], [0, 1]])])

    def test_the_start_alone(self):
        still = Listener([0], [[(0, [[0, 1]])]], [[]])
        self.assertEqual(reach(still, Sender([STEADY])), [(0, 0, [[1, 0]])])

    def test_constants_and_controls(self):
        self.assertEqual(reach(counter(), Sender([STEADY])), [
            (0, 0, [[1, 0, 0], [0, 1, 2]]), (0, 1, [[1, 0, 0], [0, 1, 2]])])

    def test_a_key_that_no_way_leads_to_does_not_occur(self):
        # Along the two states and the two controls only every other key is met.
        self.assertEqual(reach(counter(), Sender([[(0, 1)], [(0, 0)]])), [
            (0, 0, [[1, 0, 0], [0, 1, 2]]), (1, 1, [[1, 0, 0], [0, 1, 2]])])
        self.assertEqual(reach(counter(), Sender([[(0, 1)], [(0, 1)]])), [
            (0, 0, [[1, 0, 0]]), (1, 0, [[1, 0, 0], [0, 1, 2]]), (1, 1, [[1, 0, 0], [0, 1, 2]])])
        self.assertEqual([item[:2] for item in reach(counter(), Sender([[(0, 0)], [(0, 1)]]))], [(0, 0), (0, 1)])

    def test_one_kind_may_lead_to_two_states(self):
        self.assertEqual(reach(adder(), Sender([[(0, 0), (0, 1)], [(1, 1)]])), [(0, 0, PLANE), (1, 0, PLANE)])

    def test_carried_integers_reach_cell_after_cell(self):
        unit = [[int(at == one) for at in range(4)] for one in range(4)]
        self.assertEqual(reach(shifter(), Sender([STEADY])), [(0, 0, unit)])
        one_way = Sender([[(0, 1)], [(0, 1)]])
        self.assertEqual(reach(shifter(), one_way), [(0, 0, unit[:1]), (1, 0, unit)])

    def test_both_integers_of_a_message(self):
        both = Listener([2], [[(0, [[0, 0, 0, 1, 1], [0, 0, 0, 2, 2]])]], [[]])
        self.assertEqual(reach(both, Sender([STEADY])), [(0, 0, [[1, 0, 0], [0, 1, 2]])])
        both = Listener([2], [[(0, [[0, 0, 0, 1, 1], [0, 0, 0, 2, 1]])]], [[]])
        self.assertEqual(reach(both, Sender([STEADY])), [(0, 0, [[1, 0, 0], [0, 1, 0], [0, 0, 1]])])

    def test_all_controls_and_cells(self):
        turned = [[9, 9, -9, 9], [-9, 9, 9, 9], [9, 9, 9, -9]]
        listener = Listener([0, 0], [[(1, turned), (2, turned)]] * 3, [[]] * 3)
        table = reach(listener, Sender([[(0, 0), (1, 1)], [(0, 1), (1, 0)]]))
        self.assertEqual([item[:2] for item in table], [(0, 0), (0, 1), (0, 2), (1, 1), (1, 2)])
        self.assertEqual([len(item[2]) for item in table], [1, 4, 4, 4, 4])


class SettleTest(unittest.TestCase):

    def test_examples(self):
        word, messages = settle(adder(), turns(), [[[0, 1]]])
        self.assertEqual((word, len(messages)), ("run", 1))
        self.assertIsNone(run_fault(adder(), turns(), [[[0, 1]]], messages))

    def test_sure(self):
        for claims in [[[[0, 2, -1]], [[0, -4, 2], [0, 2, -1]], []], [[], [], []], [[[0, 0, 0]], [[0, 0, 0]] * 3, []]]:
            self.assertEqual(settle(counter(), Sender([STEADY]), claims), ("sure", reach(counter(), Sender([STEADY]))))

    def test_no_claims_and_the_zero_form_always_hold(self):
        for claims in ([[]], [[[0, 0]]], [[[0, 0], [0, 0], [0, 0]]]):
            self.assertEqual(settle(adder(), anything(), claims), ("sure", [(0, 0, PLANE)]))

    def test_the_empty_run_breaks_a_claim_that_is_broken_at_the_start(self):
        for claims in ([[[1, 0]]], [[[0, 0], [-3, 1]]], [[[1, 5], [0, 1]]]):
            self.assertEqual(settle(adder(), turns(), claims), ("run", []))

    def test_claims_of_a_control_that_is_never_reached_do_not_matter(self):
        claims = [[], [], [[1, 0, 0], [0, 1, 0]]]
        self.assertEqual(settle(counter(), Sender([STEADY]), claims), ("sure", reach(counter(), Sender([STEADY]))))
        claims = [[], [[0, 1, 0]], []]
        self.assertEqual(settle(counter(), Sender([STEADY]), claims), ("run", [(0, ())]))

    def test_the_run_is_as_short_as_possible(self):
        for at in range(3):
            form = [0] * 4
            form[1 + at] = 1
            word, messages = settle(shifter(), Sender([STEADY]), [[form]])
            self.assertEqual((word, len(messages)), ("run", at + 1))
            self.assertIsNone(run_fault(shifter(), Sender([STEADY]), [[form]], messages))
        # Only the second message can be heard at control 1, where the claim is.
        claims = [[[0, 0, 0]], [[6, -2, -2]], []]
        word, messages = settle(counter(), Sender([STEADY]), claims)
        self.assertEqual((word, len(messages)), ("run", 3))

    def test_a_long_run(self):
        # Cell 2 becomes other than 0 only behind all states and controls.
        add = [[1, 1, 0, 0], [0, 1, 1, 0], [0, 0, 1, 1]]
        listener = Listener([0], [[(1, add)], [(2, add)], [(0, add)]], [[]] * 3)
        claims = [[[0, 0, 0, 1]], [], []]
        word, messages = settle(listener, Sender([[(0, 1)], [(0, 0)]]), claims)
        self.assertEqual((word, len(messages)), ("run", 3))
        product = [[[-9, 1, 0, 0]], [[-1, 1, 0, 0]], [[-2, 1, 0, 0]]]
        word, messages = settle(listener, Sender([[(0, 1)], [(0, 0)]]), product)
        self.assertEqual((word, len(messages)), ("run", 0))

    def test_claims_with_great_numbers(self):
        great = 10 ** 2000 - 1
        self.assertEqual(settle(counter(), Sender([STEADY]), [[[0, 2 * great, -great]], [[0, -2 * great, great]], []])[0],
                         "sure")
        word, messages = settle(counter(), Sender([STEADY]), [[[0, 2 * great, -great + 1]], [], []])
        self.assertEqual((word, len(messages)), ("run", 2))


class TableFaultTest(unittest.TestCase):

    def fault(self, thing, claims=None):
        return table_fault(adder(), turns(), [[]] if claims is None else claims, thing)

    def test_examples(self):
        self.assertEqual(self.fault([(0, 0, [[1, 0]])]), ("closed", 0, 0, 1, 1))

    def test_tables_without_fault(self):
        self.assertIsNone(self.fault(reach(adder(), turns())))
        table = [(0, 0, [[1, 0, 0], [0, 1, 2]]), (0, 1, [[1, 0, 0], [0, 1, 2]])]
        for claims in ([[], [], []], [[[0, 2, -1]], [[0, 0, 0], [0, -2, 1]], [[1, 0, 0]]]):
            self.assertIsNone(table_fault(counter(), Sender([STEADY]), claims, table))

    def test_a_closed_table_need_not_be_the_least_one(self):
        whole = [[1, 0, 0], [0, 1, 0], [0, 0, 1]]
        table = [(0, control, whole) for control in range(3)]
        self.assertIsNone(table_fault(counter(), Sender([STEADY]), [[], [], []], table))
        self.assertEqual(table_fault(counter(), Sender([STEADY]), [[], [[0, 2, -1]], []], table), ("claim", 0, 1, 0))
        self.assertEqual(table_fault(counter(), Sender([STEADY]), [[], [], [[0, 0, 1]]], table), ("claim", 0, 2, 0))
        more = [(0, 0, [[1, 0, 0], [0, 1, 2]]), (0, 1, [[1, 0, 0], [0, 1, 2]]), (0, 2, [[1, 7, 7]])]
        self.assertIsNone(table_fault(counter(), Sender([STEADY]), [[], [], []], more))

    def test_form(self):
        good, other = (0, 0, PLANE), (1, 0, PLANE)
        listener = adder()
        nested = [[]]
        for _ in range(18):
            nested = [nested]
        things = [
            *[thing for thing in NO_LISTS], 1.5, {1, 2}, frozenset(), range(3), slice(0, 1), 2j, listener, turns(), [None],
            [listener], [(0, 0, listener)], [turns(), good], nested, (good, other), [list(good), other], [good, list(other)],
            [(0, 0)], [(0, PLANE)], [(0, 0, 0, PLANE)], [()], [PLANE], ["abc"], [{}], {(0, 0): PLANE},
            [good, good], [good, other, other], [other, good], [good, (2, 0, PLANE)], [(0, -1, PLANE), good],
            [good, (0, 1, PLANE)], [(-1, 0, PLANE), good],
            *[[(bad, 0, PLANE)] for bad in NO_INTEGERS], *[[(0, bad, PLANE)] for bad in NO_INTEGERS],
            *[[(0, 0, bad)] for bad in NO_LISTS], *[[(0, 0, [bad])] for bad in NO_LISTS],
            *[[(0, 0, [[bad, 0]])] for bad in NO_INTEGERS], *[[(0, 0, [[1, bad]])] for bad in NO_INTEGERS],
            [(0, 0, [])], [(0, 0, [[0, 0]])], [(0, 0, [[1, 0, 0]])], [(0, 0, [[1]])], [(0, 0, [[]])], [(0, 0, [(1, 0)])],
            [(0, 0, ([1, 0],))], [(0, 0, [[0, 1]])], [(0, 0, [[0, 1], [1, 0]])], [(0, 0, [[2, 0]])], [(0, 0, [[-1, 0]])],
            [(0, 0, [[1, 1], [0, 1]])], [(0, 0, [[1, 0], [1, 0]])], [(0, 0, [[1, 0], [0, 2]])], [(0, 0, [[1, 0], [0, 0]])],
            [(0, 0, [[1.0, 0]])], [good, (1, 0, [[0, 1]])], [good, (1, 0, [])], [good, other, None],
        ]
        for thing in things:
            with self.subTest(thing=thing):
                self.assertEqual(self.fault(thing), ("form",))
                self.assertEqual(self.fault(thing, [[[1, 0]]]), ("form",))

    def test_start(self):
        for thing in [[], [(1, 0, PLANE)], [(0, 0, [[1, 1]])], [(0, 0, [[1, -5]]), (1, 0, PLANE)]]:
            with self.subTest(thing=thing):
                self.assertEqual(self.fault(thing), ("start",))
                self.assertEqual(self.fault(thing, [[[1, 0]]]), ("start",))
        thing = [(0, 0, [[1, 0, 1], [0, 1, 0]])]
        self.assertEqual(table_fault(counter(), Sender([STEADY]), [[], [], []], thing), ("start",))

    def test_closed(self):
        self.assertEqual(self.fault([(0, 0, [[1, 0]]), (1, 0, PLANE)]), ("closed", 1, 0, 0, 0))
        self.assertEqual(self.fault([(0, 0, [[1, 0]]), (1, 0, [[1, 0]])], [[[1, 0]]]), ("closed", 0, 0, 1, 1))
        fault = table_fault(adder(), Sender([[(0, 0), (0, 1), (1, 1)], [(1, 1)]]), [[]], [(0, 0, PLANE)])
        self.assertEqual(fault, ("closed", 0, 0, 0, 1))
        table = [(0, 0, [[1, 0, 0], [0, 1, 2]]), (0, 1, [[1, 0, 0], [0, 1, 2]]), (0, 2, [[1, 0, 0]])]
        sender = Sender([STEADY])
        moving = Listener([0], [[(1, [[1, 1, 0], [2, 0, 1]])], [(0, [[1, 1, 0], [2, 0, 1]])], [(2, [[0, 1, 1], [1, 0, 1]])]],
                          [[], [], []])
        self.assertEqual(table_fault(moving, sender, [[], [], []], table), ("closed", 0, 2, 0, 0))
        # A carried integer alone can leave the space of the key behind.
        setter = Listener([1], [[(0, [[0, 0, 1]])]], [[]])
        self.assertEqual(table_fault(setter, sender, [[]], [(0, 0, [[1, 0]])]), ("closed", 0, 0, 0, 0))

    def test_claim(self):
        table = [(0, 0, [[1, 0, 0], [0, 1, 2]]), (0, 1, [[1, 0, 0], [0, 1, 2]])]
        sender = Sender([STEADY])
        good, bad = [0, 2, -1], [0, 0, 1]
        for claims, fault in [
            ([[bad], [], []], ("claim", 0, 0, 0)), ([[good, good, bad], [bad], []], ("claim", 0, 0, 2)),
            ([[good], [good, bad, bad], []], ("claim", 0, 1, 1)), ([[], [[1, 0, 0]], []], ("claim", 0, 1, 0)),
            ([[good], [good], [bad]], None), ([[[0, 0, 0]], [[0, 0, 0]] * 3, [[1, 0, 0]]], None),
        ]:
            self.assertEqual(table_fault(counter(), sender, claims, table), fault)
        self.assertEqual(self.fault(reach(adder(), turns()), [[[0, 1]]]), ("claim", 0, 0, 0))

    def test_great_numbers(self):
        great = 10 ** 1999 + 7
        still = Listener([0], [[(0, KEEP)]], [[]])
        table = [(0, 0, [[1, 0, 0], [0, great, great + 1]])]
        self.assertIsNone(table_fault(still, Sender([STEADY]), [[[0, great + 1, -great]]], table))
        self.assertEqual(table_fault(still, Sender([STEADY]), [[[0, great, -great]]], table), ("claim", 0, 0, 0))
        self.assertEqual(table_fault(counter(), Sender([STEADY]), [[], [], []], table), ("closed", 0, 0, 0, 0))


class RunFaultTest(unittest.TestCase):

    def fault(self, thing, claims=None):
        return run_fault(adder(), turns(), [[[0, 1]]] if claims is None else claims, thing)

    def test_examples(self):
        self.assertEqual(self.fault([(1, (0,))]), ("kept",))

    def test_runs_without_fault(self):
        self.assertIsNone(self.fault([(1, (5,))]))
        self.assertIsNone(self.fault([(1, (5,)), (0, (0,)), (1, (-3,))]))
        self.assertIsNone(self.fault([], [[[1, 0]]]))
        self.assertIsNone(self.fault([(1, (5,))], [[[0, 0], [-5, 1], [5, 1]]]))
        self.assertIsNone(self.fault([(1, (10 ** 1999,)), (0, (10 ** 1999,))], [[[10 ** 1999, 1]]]))

    def test_form(self):
        good = (1, (0,))
        for thing in [*NO_LISTS, (good,), {0: good}, [None], [good, None], [[1, (0,)]], [(1, [0])], [(1,)], [(1, (0,), 0)],
                      [(2, (0,))], [(-1, (0,))], [(1, ())], [(1, (0, 0))], [good, (0, ())], [adder()], adder(), 1.5, {1},
                      *[[(bad, (0,))] for bad in NO_INTEGERS], *[[(1, (bad,))] for bad in NO_INTEGERS],
                      *[[good, good, (1, (bad,))] for bad in NO_INTEGERS]]:
            with self.subTest(thing=thing):
                self.assertEqual(self.fault(thing), ("form",))
                self.assertEqual(self.fault(thing, [[]]), ("form",))

    def test_way(self):
        one, two = (1, (5,)), (0, (5,))
        for thing, index in [([two], 0), ([one, one], 1), ([one, two, two], 2), ([one, two, one, one, two, two], 3)]:
            self.assertEqual(self.fault(thing), ("way", index))
            self.assertEqual(self.fault(thing, [[]]), ("way", index))
        forks = Sender([[(0, 0), (0, 1)], [(1, 1)]])
        zero, add = (0, (0,)), (1, (3,))
        self.assertEqual(run_fault(adder(), forks, [[[0, 1]]], [zero, add, add, zero]), ("way", 3))
        self.assertIsNone(run_fault(adder(), forks, [[[0, 1]]], [zero, zero, add, add]))

    def test_kept(self):
        self.assertEqual(self.fault([]), ("kept",))
        self.assertEqual(self.fault([(1, (5,)), (0, (0,))]), ("kept",))
        self.assertEqual(self.fault([(1, (5,))], [[]]), ("kept",))
        self.assertEqual(self.fault([(1, (5,))], [[[0, 0], [-5, 1], [10, -2]]]), ("kept",))
        claims = [[], [], [[1, 0, 0]]]
        self.assertEqual(run_fault(counter(), Sender([STEADY]), claims, [(0, ())] * 60), ("kept",))
        self.assertEqual(run_fault(counter(), Sender([STEADY]), [[[0, 1, 0]], [], []], [(0, ())]), ("kept",))
        self.assertIsNone(run_fault(counter(), Sender([STEADY]), [[[0, 1, 0]], [], []], [(0, ())] * 60))

    def test_the_run_need_not_be_the_shortest(self):
        self.assertIsNone(self.fault([(1, (0,)), (0, (0,))] * 29 + [(1, (1,)), (0, (9,))]))


class ReachErrorsTest(unittest.TestCase):

    def test_claims(self):
        good = [[], [], []]
        for bad in [*NO_LISTS, [], [[]], [[], []], [[], [], [], []], tuple(good), [None, [], []], [(), [], []], [[], {}, []],
                    [[[0, 0, 0]] * 4, [], []], [[], [[0, 0]], []], [[], [[0, 0, 0, 0]], []], [[], [], [[]]],
                    [[], [], [(0, 0, 0)]], [[None], [], []], [["000"], [], []], [[], [[0, 0, 0], None], []],
                    *[[[], [], [[0, 0, bad]]] for bad in NO_INTEGERS], {0: [], 1: [], 2: []}]:
            with self.subTest(bad=bad):
                sender = Sender([STEADY])
                self.assertRaises(NoClaims, settle, counter(), sender, bad)
                self.assertRaises(NoClaims, table_fault, counter(), sender, bad, reach(counter(), sender))
                self.assertRaises(NoClaims, table_fault, counter(), sender, bad, None)
                self.assertRaises(NoClaims, run_fault, counter(), sender, bad, [])
                self.assertRaises(NoClaims, run_fault, counter(), sender, bad, None)

    def test_unlike_comes_first(self):
        sender = Sender([[(0, 1)], [(0, 0), (1, 0)]])
        self.assertRaises(Unlike, reach, counter(), sender)
        for claims in (None, [[], [], []]):
            self.assertRaises(Unlike, settle, counter(), sender, claims)
            self.assertRaises(Unlike, table_fault, counter(), sender, claims, None)
            self.assertRaises(Unlike, run_fault, counter(), sender, claims, None)


class ReachLeavesAloneTest(unittest.TestCase):

    def calls(self):
        table = reach(counter(), Sender([STEADY]))
        good, bad = [[[0, 2, -1]], [], []], [[], [[0, 1, 0]], []]
        return [(reach, ()), (settle, (good,)), (settle, (bad,)), (table_fault, (good, table)), (table_fault, (bad, table)),
                (run_fault, (bad, [(0, ())])), (run_fault, (good, [(0, ())] * 3)), (settle, ([[[1, 0, 0]], [], []],))]

    def test_arguments_stay(self):
        listener, sender = counter(), Sender([STEADY])
        for function, arguments in self.calls():
            before = copy.deepcopy(arguments)
            function(listener, sender, *arguments)
            self.assertEqual(arguments, before)
        self.assertTrue(listener == counter())
        self.assertEqual(sender.ways(0), STEADY)

    def test_what_is_returned_belongs_to_the_caller(self):
        listener, sender = counter(), Sender([STEADY])
        for function, arguments in self.calls():
            first = function(listener, sender, *arguments)
            kept, before = copy.deepcopy(first), copy.deepcopy(arguments)
            found = lists_in(first)
            self.assertEqual(len({id(item) for item in found}), len(found))
            self.assertFalse({id(item) for item in found} & {id(item) for item in lists_in(arguments)})
            for item in found:
                item.append(99)
                item.reverse()
            self.assertEqual(function(listener, sender, *arguments), kept)
            self.assertEqual(arguments, before)

    def test_what_was_returned_may_be_handed_in_again(self):
        listener, sender = adder(), turns()
        self.assertIsNone(table_fault(listener, sender, [[]], settle(listener, sender, [[]])[1]))
        self.assertIsNone(run_fault(listener, sender, [[[0, 1]]], settle(listener, sender, [[[0, 1]]])[1]))


if __name__ == "__main__":
    unittest.main()
