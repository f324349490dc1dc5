"""Chasers: the examples, the edges, the errors and what calls leave alone."""

import copy
import unittest

from latecomers.chasers import Chaser, brings_alike, brings_level, chase_fault, chase_run_fault
from latecomers.errors import NoChaser, NoMessage, NoStand, Unlike
from latecomers.listeners import Listener
from latecomers.reach import reach
from latecomers.senders import Sender
from samples import (
    NO_INTEGERS, NO_LISTS, adder, anything, check_calls, check_raises, copier, counter, lists_in, odd_things, shifter, steady,
    turns)

EQUAL = [[1, 0, 0], [0, 1, 1]]
WHOLE = [[1, 0, 0], [0, 1, 0], [0, 0, 1]]
GREAT = 10 ** 60 - 1


def adder_parts():
    return [1, 1], [[(0, [[0, 0, 1]]), (0, [[0, 1, 1]])]], [[(0, [[0, 1]])]]


def wide_parts():
    """Burdens 0, 1 and 2, two controls, three cells, a speech of four messages and an empty one."""
    rules = []
    for control in range(2):
        of_control = []
        for kind in range(3):
            rows = [[control - kind, 1, 2, -3] + [9] * kind, [-9, 0, control, kind] + [-1] * kind, [0, 5, -5, 1] + [kind] * kind]
            of_control.append(((control + kind) % 2, rows))
        rules.append(of_control)
    speech = [(0, []), (1, [[1, 2, 3, -9]]), (2, [[0, 0, 0, 9], [5, 0, 0, 0]]), (1, [[0, 0, 0, 0]])]
    return [0, 1, 2], rules, [speech, []]


def controlled():
    """Two controls, one cell: from control 0 kind 0 sets the cell; kind 1 goes to control 1, where nothing changes."""
    return Listener([1, 0], [[(0, [[0, 0, 1]]), (1, [[0, 1]])], [(1, [[0, 1, 0]]), (1, [[0, 1]])]], [[[0, 1]], [[0, 1]]])


def controlled_chaser(speeches):
    return Chaser([1, 0], [[(0, [[0, 0, 1]]), (1, [[0, 1]])], [(1, [[0, 1, 0]]), (1, [[0, 1]])]], speeches)


SET = (0, [[0, 1]])
GO = (1, [])


class ChaserTest(unittest.TestCase):

    def test_examples(self):
        self.assertEqual(copier().spoken((0, (6,))), [(0, (6,))])

    def test_start(self):
        self.assertEqual(copier().start(), (0, (0,)))
        self.assertEqual(Chaser(*wide_parts()).start(), (0, (0, 0, 0)))

    def test_hear(self):
        self.assertEqual(copier().hear((0, (5,)), (1, (2,))), (0, (7,)))
        self.assertEqual(copier().hear((0, (5,)), (0, (-2,))), (0, (-2,)))
        self.assertEqual(Chaser(*wide_parts()).hear((1, (1, 2, 3)), (2, (10, 20))),
                         (1, (-1 + 1 + 4 - 9 + 270, -9 + 2 + 6 - 30, 5 - 10 + 3 + 60)))
        self.assertEqual(copier().hear((0, (GREAT,)), (1, (GREAT,))), (0, (2 * GREAT,)))

    def test_spoken(self):
        chaser = Chaser(*wide_parts())
        self.assertEqual(chaser.spoken((0, (1, 10, 100))), [(0, ()), (1, (1 + 2 + 30 - 900,)), (2, (900, 5)), (1, (0,))])
        self.assertEqual(chaser.spoken((1, (1, 10, 100))), [])
        self.assertEqual(copier().spoken((0, (-GREAT,))), [(0, (-GREAT,))])

    def test_the_least_and_the_greatest_chaser(self):
        self.assertEqual(Chaser([0], [[(0, [[0, 0]])]], [[]]).spoken((0, (3,))), [])
        nine = Chaser([2, 2, 2], [[(2, [[9] * 6] * 3)] * 3] * 3, [[(2, [[-9] * 4, [9] * 4])] * 4] * 3)
        self.assertEqual(nine.spoken((2, (1, 1, 1))), [(2, (-36, 36))] * 4)

    def test_no_chaser(self):
        burdens, rules, speeches = adder_parts()
        for place, parts in [
                *[("burdens", (bad, rules, speeches)) for bad in
                  [*NO_LISTS, [], [1, 1, 1, 1], (1, 1), [1, 3], [-1, 1], ["1", 1], *[[1, bad] for bad in NO_INTEGERS]]],
                *[("rules", (burdens, bad, speeches)) for bad in
                  [*NO_LISTS, [], [[]], [rules[0]] * 4, tuple(rules), [tuple(rules[0])], [rules[0][:1]], [[None, None]],
                   [[(1, [[0, 0, 1]]), (0, [[0, 1, 1]])]], [[(0, [[0, 0]]), (0, [[0, 1, 1]])]], [[(0, []), (0, [])]],
                   [[(0, [[0, 0, 10]]), (0, [[0, 1, 1]])]], [[(0, [[0, 0, 1]] * 4), (0, [[0, 1, 1]] * 4)]],
                   [[(0, [[0, 0, 0, 1]] * 2), (0, [[0, 1, 1]])]], [[[0, [[0, 0, 1]]], (0, [[0, 1, 1]])]],
                   [[(True, [[0, 0, 1]]), (0, [[0, 1, 1]])]], [[(0, [[0, True, 1]]), (0, [[0, 1, 1]])]]]],
                *[("speeches", (burdens, rules, bad)) for bad in
                  [*NO_LISTS, [], [[], []], tuple(speeches), [None], [()], [[SET] * 5], [[None]], [[[0, [[0, 1]]]]], [[(0,)]],
                   [[(0, [[0, 1]], 0)]], [[(2, [[0, 1]])]], [[(-1, [[0, 1]])]], [[(0, [])]], [[(0, [[0, 1], [0, 1]])]],
                   [[(0, ([0, 1],))]], [[(0, [(0, 1)])]], [[(0, [[0]])]], [[(0, [[0, 1, 0]])]], [[(0, [[0, 10]])]],
                   [[(0, [[-10, 0]])]], [[(0, None)]], [[(0, [None])]], [[SET, SET, None]], [{0: SET}],
                   *[[[(bad, [[0, 1]])]] for bad in NO_INTEGERS], *[[[(0, [[0, bad]])]] for bad in NO_INTEGERS]]]]:
            with self.subTest(place=place, parts=parts):
                check_raises(self, NoChaser, {"place": place}, Chaser, *parts)

    def test_the_first_place_counts(self):
        burdens, rules, speeches = adder_parts()
        check_raises(self, NoChaser, {"place": "burdens"}, Chaser, None, None, None)
        check_raises(self, NoChaser, {"place": "burdens"}, Chaser, [], rules, speeches)
        check_raises(self, NoChaser, {"place": "rules"}, Chaser, burdens, None, None)
        # One burden fewer than the rules have kinds: the rules are not as described for these burdens.
        check_raises(self, NoChaser, {"place": "rules"}, Chaser, [1], rules, speeches)
        check_raises(self, NoChaser, {"place": "speeches"}, Chaser, burdens, rules * 2, speeches)

    def test_stands_and_messages(self):
        chaser = copier()
        for bad in [None, 0, "ab", [], [0, (0,)], (), (0,), (0, (0,), 0), (0, [0]), (0, ()), (0, (0, 0)), (1, (0,)), (-1, (0,)),
                    *[(item, (0,)) for item in NO_INTEGERS], *[(0, (item,)) for item in NO_INTEGERS]]:
            with self.subTest(bad=bad):
                check_raises(self, NoStand, {}, chaser.hear, bad, (0, (0,)))
                check_raises(self, NoStand, {}, chaser.hear, bad, None)
                check_raises(self, NoStand, {}, chaser.spoken, bad)
        for bad in [None, 0, "ab", [], [0, (0,)], (), (0,), (0, (0,), 0), (0, [0]), (0, ()), (0, (0, 0)), (2, (0,)), (-1, (0,)),
                    *[(item, (0,)) for item in NO_INTEGERS], *[(0, (item,)) for item in NO_INTEGERS]]:
            with self.subTest(bad=bad):
                check_raises(self, NoMessage, {"index": 0}, chaser.hear, (0, (0,)), bad)

    def test_it_copies_what_it_is_created_from(self):
        parts = adder_parts()
        kept = copy.deepcopy(parts)
        chaser = Chaser(*parts)
        self.assertEqual(parts, kept)
        for item in lists_in(list(parts)):
            item.append(7)
        self.assertEqual(chaser.spoken((0, (6,))), [(0, (6,))])
        self.assertEqual(chaser.hear((0, (5,)), (1, (2,))), (0, (7,)))
        self.assertEqual(brings_level(adder(), anything(), chaser)[0], "level")
        told = chaser.spoken((0, (6,)))
        told.append(None)
        self.assertEqual(chaser.spoken((0, (6,))), [(0, (6,))])


class BringsLevelTest(unittest.TestCase):

    def test_examples(self):
        self.assertEqual(brings_level(adder(), anything(), copier()), ("level", [(0, 0, 0, EQUAL)]))

    def test_all_states(self):
        self.assertEqual(brings_level(adder(), turns(), copier()), ("level", [(0, 0, 0, EQUAL), (1, 0, 0, EQUAL)]))

    def test_empty_speeches(self):
        still = Listener([0], [[(0, [[0, 1]])]], [[[0, 1]]])
        silent = Chaser([0], [[(0, [[1, 1]])]], [[]])
        self.assertEqual(brings_level(still, steady(), silent), ("level", [(0, 0, 0, [[1, 0, 0], [0, 0, 1]])]))
        mute = Chaser(*adder_parts()[:2], [[]])
        word, messages = brings_level(adder(), anything(), mute)
        self.assertEqual((word, len(messages)), ("run", 1))
        self.assertNotEqual(messages[0][1], (0,))

    def test_the_late_one_begins_at_the_start_and_hears_only_what_is_spoken(self):
        # A chaser that speaks the sum by adding it is right, one that adds it twice is not.
        adds = Chaser(*adder_parts()[:2], [[(1, [[0, 1]])]])
        self.assertEqual(brings_level(adder(), anything(), adds)[0], "level")
        adds_twice = Chaser(*adder_parts()[:2], [[(1, [[0, 1]]), (1, [[0, 1]])]])
        self.assertEqual(brings_level(adder(), anything(), adds_twice)[0], "run")
        adds_and_sets = Chaser(*adder_parts()[:2], [[(1, [[5, 0]]), (1, [[0, -7]]), (1, [[1, 1]]), SET]])
        self.assertEqual(brings_level(adder(), anything(), adds_and_sets)[0], "level")

    def test_speeches_of_four_messages(self):
        halves = Chaser(*adder_parts()[:2], [[(0, [[0, 9]]), (1, [[0, -5]]), (1, [[1, -4]]), (1, [[-1, 1]])]])
        self.assertEqual(brings_level(adder(), anything(), halves), ("level", [(0, 0, 0, EQUAL)]))

    def test_what_the_late_one_adds_to_what_it_hears(self):
        # The listener takes 7 more than a message carries, and adds 1 more at each message of kind 1.
        listener = Listener([1, 1], [[(0, [[7, 0, 1]]), (0, [[1, 1, 1]])]], [[[0, 1]]])
        rules = [[(0, [[7, 0, 1]]), (0, [[1, 1, 1]])]]
        for speech in ([(0, [[-7, 1]])], [(0, [[1, 0]]), (1, [[-9, 1]])], [(1, [[-1, 1]])], [(1, [[0, 2]]), (1, [[-2, -1]])]):
            self.assertEqual(brings_level(listener, anything(), Chaser([1, 1], rules, [speech])), ("level", [(0, 0, 0, EQUAL)]))
            self.assertEqual(brings_alike(listener, anything(), Chaser([1, 1], rules, [speech]))[0], "alike")
        for speech in ([(0, [[0, 1]])], [(1, [[0, 1]])], [(0, [[1, 0]]), (1, [[-8, 1]])]):
            self.assertEqual(brings_level(listener, anything(), Chaser([1, 1], rules, [speech])), ("run", []))

    def test_what_is_spoken_need_not_be_let(self):
        self.assertEqual(brings_level(adder(), Sender([[(1, 0)]]), copier())[0], "level")

    def test_other_numbers_of_controls_and_of_cells(self):
        # The chaser keeps the three cells in other places, negated, and forgets nothing.
        rows = [[0, 0, 1, 0, 0], [0, 0, 0, 0, -1], [0, -1, 0, 0, 0]]
        speech = [(0, [[0, 0, 0, 1]]), (0, [[0, -1, 0, 0]]), (0, [[0, 0, -1, 0]])]
        chaser = Chaser([1], [[(1, rows)], [(0, rows)]], [speech, [(0, [[9, 9, 9, 9]])] + speech])
        word, table = brings_level(shifter(), steady(), chaser)
        self.assertEqual((word, [item[:3] for item in table]), ("level", [(0, 0, 0), (0, 0, 1)]))
        self.assertEqual({len(basis[0]) for *key, basis in table}, {7})
        # With one cell it cannot keep all three.
        poor = Chaser([1], [[(0, [[0, 0, 1]])]], [[(0, [[0, 1]])]])
        word, messages = brings_level(shifter(), steady(), poor)
        self.assertEqual((word, len(messages)), ("run", 2))
        self.assertIsNone(chase_run_fault(shifter(), steady(), poor, messages))

    def test_the_run_is_empty_if_the_late_one_leaves_the_start_for_nothing(self):
        for speech in ([(0, [[1, 0]])], [(1, [[0, 0]]), (1, [[-3, 5]])]):
            self.assertEqual(brings_level(adder(), anything(), Chaser(*adder_parts()[:2], [speech])), ("run", []))

    def test_unlike_controls(self):
        both = Sender([[(0, 0), (1, 0)]])
        good = controlled_chaser([[SET], [SET, GO]])
        word, table = brings_level(controlled(), both, good)
        self.assertEqual((word, [item[:3] for item in table]), ("level", [(0, 0, 0), (0, 1, 1)]))
        lost = controlled_chaser([[SET], [SET]])
        self.assertEqual(brings_level(controlled(), both, lost), ("run", [(1, ())]))
        early = controlled_chaser([[SET, GO], [SET, GO]])
        self.assertEqual(brings_level(controlled(), both, early), ("run", []))
        late = controlled_chaser([[SET], [GO, SET]])
        word, messages = brings_level(controlled(), both, late)
        self.assertEqual((word, len(messages)), ("run", 2))

    def test_the_run_is_as_short_as_possible(self):
        # The speech is wrong at a control that the chaser reaches behind two messages.
        rules = [[(1, [[0, 0, 1]]), (1, [[0, 1, 1]])], [(2, [[0, 0, 1]]), (2, [[0, 1, 1]])], [(2, [[0, 0, 1]]), (2, [[0, 1, 1]])]]
        chaser = Chaser([1, 1], rules, [[SET], [SET], [(0, [[1, 1]])]])
        word, messages = brings_level(adder(), turns(), chaser)
        self.assertEqual((word, len(messages)), ("run", 2))
        self.assertIsNone(chase_run_fault(adder(), turns(), chaser, messages))


class BringsAlikeTest(unittest.TestCase):

    def test_level_is_alike(self):
        for sender in (anything(), turns()):
            self.assertEqual(brings_alike(adder(), sender, copier()),
                             ("alike", brings_level(adder(), sender, copier())[1]))

    def test_cells_that_are_never_seen_need_not_be_right(self):
        listener = Listener([1], [[(0, [[0, 0, 0, 1], [1, 1, 1, 0]])]], [[[0, 1, 0]]])
        chaser = Chaser([1], [[(0, [[0, 0, 1]])]], [[(0, [[0, 1]])]])
        self.assertEqual(brings_level(listener, steady(), chaser)[0], "run")
        word, table = brings_alike(listener, steady(), chaser)
        self.assertEqual((word, [item[:3] for item in table]), ("alike", [(0, 0, 0)]))
        self.assertEqual(table, [(0, 0, 0, [[1, 0, 0, 0], [0, 1, 0, 1], [0, 0, 1, 0]])])

    def test_controls_that_look_alike(self):
        both = Sender([[(0, 0), (1, 0)]])
        # Control 0 forgets its cell at kind 0, control 1 does not; behind kind 1 alone they look alike.
        self.assertEqual(brings_alike(controlled(), both, controlled_chaser([[SET], [SET]]))[0], "run")
        only = Sender([[(1, 0)]])
        self.assertEqual(brings_alike(controlled(), only, controlled_chaser([[SET], [SET]]))[0], "alike")
        self.assertEqual(brings_level(controlled(), only, controlled_chaser([[SET], [SET]])), ("run", [(1, ())]))

    def test_it_depends_on_the_state_at_which_the_list_ends(self):
        # The second cell is seen only if kind 1 follows, which is emitted only from state 1.
        rules = [[(0, [[0, 1, 0, 0], [0, 0, 0, 1]]), (0, [[0, 0, 1], [0, 0, 1]])]]
        listener = Listener([1, 0], rules, [[[0, 1, 0]]])
        mute = Chaser([1, 0], [[(0, [[0, 0, 0]]), (0, [[0, 0]])]], [[]])
        self.assertEqual(brings_alike(listener, Sender([[(0, 0)], [(1, 0)]]), mute)[0], "alike")
        for sender in (Sender([[(0, 0), (0, 1)], [(1, 0)]]), Sender([[(0, 1)], [(1, 0)]])):
            word, messages = brings_alike(listener, sender, mute)
            self.assertEqual((word, len(messages)), ("run", 1))
            self.assertIsNone(chase_run_fault(listener, sender, mute, messages, alike=True))

    def test_no_shows_at_all(self):
        mute = Chaser([1], [[(0, [[0, 0, 0]])]], [[]])
        self.assertEqual(brings_alike(shifter(), steady(), mute)[0], "alike")
        self.assertEqual(brings_level(shifter(), steady(), mute)[0], "run")

    def test_unlike_numbers_of_shows(self):
        listener = Listener([0], [[(1, [[0, 1]])], [(1, [[0, 1]])]], [[], [[0, 1]]])
        mute = Chaser([0], [[(0, [[0, 0]])]], [[]])
        self.assertEqual(brings_alike(listener, steady(), mute), ("run", [(0, ())]))
        once = Chaser([0], [[(1, [[0, 0]])], [(1, [[0, 0]])]], [[], [(0, [])]])
        self.assertEqual(brings_alike(listener, steady(), once)[0], "alike")


class ChaseFaultTest(unittest.TestCase):

    def fault(self, thing, alike=False, chaser=None):
        return chase_fault(adder(), turns(), chaser or copier(), thing, alike=alike)

    def test_without_fault(self):
        good = [(0, 0, 0, EQUAL), (1, 0, 0, EQUAL)]
        self.assertIsNone(chase_fault(adder(), turns(), copier(), good))
        self.assertIsNone(self.fault(good))
        self.assertIsNone(self.fault(good, True))
        # A closed table may be greater than the least one.
        mute = Chaser([1], [[(0, [[0, 0, 0]])]], [[]])
        whole = [[int(at == one) for at in range(5)] for one in range(5)]
        self.assertIsNone(chase_fault(shifter(), steady(), mute, [(0, 0, 0, whole)], alike=True))
        self.assertEqual(chase_fault(shifter(), steady(), mute, [(0, 0, 0, whole)]), ("speech", 0, 0, 0))

    def test_form(self):
        good, other = (0, 0, 0, EQUAL), (1, 0, 0, EQUAL)
        for thing in [*[item for item in odd_things() if item != []], *NO_LISTS, (good, other), [list(good), other], [good, good],
                      [other, good], [good, (2, 0, 0, EQUAL)], [good, (0, 1, 0, EQUAL)], [good, (0, 0, 1, EQUAL)],
                      [(-1, 0, 0, EQUAL), good], [(0, 0, EQUAL)], [(0, 0, 0, 0, EQUAL)],
                      *[[(bad, 0, 0, EQUAL)] for bad in NO_INTEGERS], *[[(0, bad, 0, EQUAL)] for bad in NO_INTEGERS],
                      *[[(0, 0, bad, EQUAL)] for bad in NO_INTEGERS], *[[(0, 0, 0, bad)] for bad in NO_LISTS],
                      [(0, 0, 0, [])], [(0, 0, 0, [[0, 1, 1]])], [(0, 0, 0, [[1, 0]])], [(0, 0, 0, [[1, 0, 0, 0]])],
                      [(0, 0, 0, [[2, 0, 0]])], [(0, 0, 0, [[0, 1, 1], [1, 0, 0]])], [(0, 0, 0, [(1, 0, 0)])],
                      [(0, 0, 0, [[True, 0, 0]])], {(0, 0, 0): EQUAL}]:
            for alike in (False, True):
                with self.subTest(thing=thing):
                    self.assertEqual(self.fault(thing, alike), ("form",))
        # The width is that of the listener's cells and the chaser's, not that of two listeners.
        mute = Chaser([1], [[(0, [[0, 0, 0]])]], [[]])
        self.assertEqual(chase_fault(shifter(), steady(), mute, [(0, 0, 0, [[1] + [0] * 6])]), ("form",))
        self.assertEqual(chase_fault(shifter(), steady(), mute, [(0, 0, 0, [[1] + [0] * 4])]), ("closed", 0, 0, 0, 0, 0))

    def test_start(self):
        for thing in [[], [(1, 0, 0, EQUAL)], [(0, 0, 0, [[1, 1, 1]]), (1, 0, 0, EQUAL)]]:
            for alike in (False, True):
                self.assertEqual(self.fault(thing, alike), ("start",))

    def test_closed(self):
        for alike in (False, True):
            self.assertEqual(self.fault([(0, 0, 0, EQUAL)], alike), ("closed", 0, 0, 0, 1, 1))
            self.assertEqual(self.fault([(0, 0, 0, [[1, 0, 0]]), (1, 0, 0, EQUAL)], alike), ("closed", 1, 0, 0, 0, 0))
            self.assertEqual(self.fault([(0, 0, 0, EQUAL), (1, 0, 0, [[1, 0, 0]])], alike), ("closed", 0, 0, 0, 1, 1))

    def test_speech(self):
        for alike in (False, True):
            self.assertEqual(self.fault([(0, 0, 0, WHOLE), (1, 0, 0, WHOLE)], alike), ("speech", 0, 0, 0))
            self.assertEqual(self.fault([(0, 0, 0, EQUAL), (1, 0, 0, WHOLE)], alike), ("speech", 1, 0, 0))
            mute = Chaser(*adder_parts()[:2], [[]])
            self.assertEqual(self.fault([(0, 0, 0, EQUAL), (1, 0, 0, EQUAL)], alike, mute), ("speech", 0, 0, 0))

    def test_speech_at_unlike_controls(self):
        both = Sender([[(0, 0), (1, 0)]])
        lost = controlled_chaser([[SET], [SET]])
        table = [(0, 0, 0, EQUAL), (0, 1, 1, EQUAL)]
        self.assertEqual(chase_fault(controlled(), both, lost, table), ("speech", 0, 1, 1))
        self.assertEqual(chase_fault(controlled(), both, lost, table, alike=True), ("speech", 0, 1, 1))
        only = Sender([[(1, 0)]])
        self.assertEqual(chase_fault(controlled(), only, lost, table), ("speech", 0, 1, 1))
        self.assertIsNone(chase_fault(controlled(), only, lost, table, alike=True))
        self.assertEqual(chase_fault(controlled(), only, lost, table, alike=False), ("speech", 0, 1, 1))

    def test_the_flag_is_passed_by_keyword(self):
        with self.assertRaises(TypeError):
            chase_fault(adder(), turns(), copier(), [], True)
        with self.assertRaises(TypeError):
            chase_run_fault(adder(), turns(), copier(), [], True)

    def test_the_first_fault_counts(self):
        self.assertEqual(self.fault([(0, 0, 0, [[1, 1, 0]]), (1, 0, 0, [[1, 1, 1], [0, 2, 2]])]), ("form",))
        self.assertEqual(self.fault([(0, 0, 0, [[1, 1, 0]]), (1, 0, 0, WHOLE)]), ("start",))
        self.assertEqual(self.fault([(0, 0, 0, WHOLE), (1, 0, 0, EQUAL)]), ("closed", 0, 0, 0, 1, 1))

    def test_great_numbers(self):
        great = 10 ** 1999 + 7
        still = Listener([0], [[(0, [[0, 1]])]], [[[0, 1]]])
        mute = Chaser([0], [[(0, [[0, 1]])]], [[]])
        self.assertEqual(chase_fault(still, steady(), mute, [(0, 0, 0, [[1, 0, 0], [0, great, great + 1]])]), ("speech", 0, 0, 0))
        self.assertIsNone(chase_fault(still, steady(), mute, [(0, 0, 0, [[1, 0, 0], [0, 0, 1]])]))


class ChaseRunFaultTest(unittest.TestCase):

    def setUp(self):
        self.mute = Chaser(*adder_parts()[:2], [[]])

    def fault(self, thing, alike=False):
        return chase_run_fault(adder(), turns(), self.mute, thing, alike=alike)

    def test_without_fault(self):
        for alike in (False, True):
            self.assertIsNone(self.fault([(1, (5,))], alike))
            self.assertIsNone(self.fault([(1, (GREAT,)), (0, (0,))] * 29 + [(1, (1,))], alike))
        self.assertIsNone(chase_run_fault(adder(), turns(), self.mute, [(1, (5,))]))

    def test_form(self):
        good = (1, (0,))
        for thing in [*[item for item in odd_things() if item != []], *NO_LISTS, (good,), {0: good}, [None], [good, None],
                      [[1, (0,)]], [(1, [0])], [(1,)], [(1, (0,), 0)], [(2, (0,))], [(-1, (0,))], [(1, ())], [(1, (0, 0))],
                      *[[(bad, (0,))] for bad in NO_INTEGERS], *[[good, (1, (bad,))] for bad in NO_INTEGERS]]:
            for alike in (False, True):
                with self.subTest(thing=thing):
                    self.assertEqual(self.fault(thing, alike), ("form",))

    def test_way(self):
        set_it, add = (0, (5,)), (1, (5,))
        for thing, index in [([set_it], 0), ([add, add], 1), ([add, set_it, set_it], 2), ([add, set_it, add, add, set_it], 3)]:
            for alike in (False, True):
                self.assertEqual(self.fault(thing, alike), ("way", index))

    def test_kept(self):
        for alike in (False, True):
            self.assertEqual(self.fault([], alike), ("kept",))
            self.assertEqual(self.fault([(1, (0,))], alike), ("kept",))
            self.assertEqual(self.fault([(1, (5,)), (0, (0,))], alike), ("kept",))
            messages = [(1, (GREAT,)), (0, (-GREAT,))] * 30
            self.assertEqual(chase_run_fault(adder(), turns(), copier(), messages, alike=alike), ("kept",))

    def test_unlike_controls_are_not_level_and_may_be_alike(self):
        lost = controlled_chaser([[SET], [SET]])
        only, both = Sender([[(1, 0)]]), Sender([[(0, 0), (1, 0)]])
        self.assertIsNone(chase_run_fault(controlled(), only, lost, [(1, ())]))
        self.assertEqual(chase_run_fault(controlled(), only, lost, [(1, ())], alike=True), ("kept",))
        self.assertIsNone(chase_run_fault(controlled(), both, lost, [(1, ())], alike=True))

    def test_one_state_at_which_the_list_ends_is_enough(self):
        rules = [[(0, [[0, 1, 0, 0], [0, 0, 0, 1]]), (0, [[0, 0, 1], [0, 0, 1]])]]
        listener = Listener([1, 0], rules, [[[0, 1, 0]]])
        mute = Chaser([1, 0], [[(0, [[0, 0, 0]]), (0, [[0, 0]])]], [[]])
        messages = [(0, (7,))]
        for ways, fault in [([[(0, 0), (0, 1)], [(1, 0)]], None), ([[(0, 0)], [(1, 0)]], ("kept",)), ([[(0, 1)], [(1, 0)]], None),
                            ([[(0, 1), (1, 0)], [(0, 1)]], ("kept",))]:
            self.assertEqual(chase_run_fault(listener, Sender(ways), mute, messages, alike=True), fault)
            self.assertIsNone(chase_run_fault(listener, Sender(ways), mute, messages))


class ChasersErrorsTest(unittest.TestCase):

    def test_unlike(self):
        lighter = Chaser([1, 0], [[(0, [[0, 0, 1]]), (0, [[0, 1]])]], [[]])
        fewer = Chaser([1], [[(0, [[0, 0, 1]])]], [[]])
        more = Chaser([1, 1, 0], [[(0, [[0, 0, 1]]), (0, [[0, 1, 1]]), (0, [[0, 1]])]], [[]])
        third = Sender([[(0, 0)], [(2, 1)]])
        for listener, sender, chaser in [(adder(), anything(), lighter), (adder(), steady(), fewer), (adder(), turns(), more),
                                         (adder(), third, copier()), (adder(), third, more), (counter(), steady(), fewer)]:
            check_raises(self, Unlike, {}, brings_level, listener, sender, chaser)
            check_raises(self, Unlike, {}, brings_alike, listener, sender, chaser)
            for thing in (None, []):
                for alike in (False, True):
                    check_raises(self, Unlike, {}, chase_fault, listener, sender, chaser, thing, alike=alike)
                    check_raises(self, Unlike, {}, chase_run_fault, listener, sender, chaser, thing, alike=alike)


class ChasersLeaveAloneTest(unittest.TestCase):

    def test_arguments_and_answers(self):
        listener, sender, chaser = adder(), turns(), copier()
        mute = Chaser(*adder_parts()[:2], [[]])
        table = brings_level(listener, sender, chaser)[1]
        check_calls(self, [
            (brings_level, listener, sender, chaser), (brings_alike, listener, sender, chaser), (brings_level, listener, sender, mute),
            (brings_alike, listener, sender, mute), (chase_fault, listener, sender, chaser, table),
            (chase_fault, listener, sender, mute, table), (chase_run_fault, listener, sender, mute, [(1, (5,))]),
            (chaser.spoken, (0, (6,))), (chaser.hear, (0, (6,)), (1, (5,)))])
        self.assertTrue(listener == adder())
        self.assertEqual(reach(listener, sender), reach(adder(), turns()))
        self.assertEqual(chaser.spoken((0, (6,))), [(0, (6,))])


if __name__ == "__main__":
    unittest.main()
