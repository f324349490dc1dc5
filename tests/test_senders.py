"""Senders: the examples, the edges, the errors, what calls leave alone, and drawn senders beside all ways."""

import copy
import itertools
import random
import unittest

import reference
from drawing import drawn_ways
from latecomers.errors import NoSender, NoState, NoWord, Unlike
from latecomers.late import after, entries, last_claims, late_run, level, sure_cells, when_sure
from latecomers.listeners import Listener
from latecomers.reach import reach, run_fault, settle, table_fault
from latecomers.senders import Sender

NO_INTEGERS = [True, False, None, "0", 0.0, b"0", [0], (0,), {}]
NO_LISTS = [None, True, 0, 1, "ab", "", b"a", (), {}, ([],)]


def turns():
    """The sender S of the document."""
    return Sender([[(1, 1)], [(0, 0)]])


def forks():
    """From state 0 kind 0 leads to both states; kind 2 is only emitted from state 1."""
    return Sender([[(0, 0), (0, 1)], [(2, 0)]])


class SenderTest(unittest.TestCase):

    def test_examples(self):
        self.assertEqual(turns().states_behind(0, [1, 0, 1]), [1])
        self.assertIs(turns().lets([0]), False)

    def test_states_and_ways(self):
        self.assertEqual(turns().state_count(), 2)
        self.assertEqual(Sender([[(2, 0)]]).state_count(), 1)
        self.assertEqual(turns().ways(0), [(1, 1)])
        self.assertEqual(turns().ways(1), [(0, 0)])
        self.assertEqual(forks().ways(0), [(0, 0), (0, 1)])
        self.assertEqual(Sender([[(0, 0), (1, 0), (2, 0)]]).ways(0), [(0, 0), (1, 0), (2, 0)])

    def test_states_behind(self):
        sender = forks()
        self.assertEqual(sender.states_behind(0, [0]), [0, 1])
        self.assertEqual(sender.states_behind(0, [0, 0]), [0, 1])
        self.assertEqual(sender.states_behind(0, [0, 2]), [0])
        self.assertEqual(sender.states_behind(0, [2]), [])
        self.assertEqual(sender.states_behind(1, [2]), [0])
        self.assertEqual(sender.states_behind(1, [0]), [])
        self.assertEqual(sender.states_behind(1, [2, 0]), [0, 1])
        self.assertEqual(sender.states_behind(0, [1]), [])

    def test_the_empty_word(self):
        self.assertEqual(forks().states_behind(0, []), [0])
        self.assertEqual(forks().states_behind(1, []), [1])
        self.assertIs(forks().lets([]), True)

    def test_lets(self):
        self.assertIs(turns().lets([1]), True)
        self.assertIs(turns().lets([1, 0, 1]), True)
        self.assertIs(turns().lets([1, 1]), False)
        self.assertIs(forks().lets([0, 2, 0, 0, 2]), True)
        self.assertIs(forks().lets([0, 2, 2]), False)
        self.assertIs(forks().lets([2]), False)

    def test_long_words(self):
        word = [0, 0, 2] * 3000
        self.assertEqual(forks().states_behind(0, word), [0])
        self.assertIs(forks().lets(word + [2]), False)
        self.assertIs(Sender([[(0, 0), (1, 0), (2, 0)]]).lets([0, 1, 2] * 3000), True)
        self.assertEqual(turns().states_behind(0, [0] * 5000), [])


class SenderErrorsTest(unittest.TestCase):

    def assert_state(self, state, ways):
        before = copy.deepcopy(ways)
        with self.assertRaises(NoSender) as caught:
            Sender(ways)
        self.assertEqual(caught.exception.state, state)
        self.assertNotIsInstance(caught.exception.state, bool)
        self.assertEqual(ways, before)

    def test_no_list_of_states(self):
        for bad in [*NO_LISTS, [], [[(0, 0)]] * 3, ([(0, 0)],), ([(0, 0)], [(0, 0)]), {0: [(0, 0)]}, [None] * 3]:
            with self.subTest(bad=bad):
                self.assert_state(-1, bad)

    def test_ways(self):
        good = [(0, 0)]
        for bad in [*NO_LISTS, [], [None], [[0, 0]], [(0,)], [(0, 0, 0)], [()], ["00"], [(3, 0)], [(-1, 0)], [(0, 2)],
                    [(0, -1)], [(10 ** 60, 0)], [0, 0], ((0, 0),), [(0, 0), None],
                    [(0, 0), (0, 0)], [(1, 0), (0, 0)], [(0, 1), (0, 0)], [(0, 0), (2, 0), (1, 1)], [(1, 1), (1, 1)],
                    *[[(bad, 0)] for bad in NO_INTEGERS], *[[(0, bad)] for bad in NO_INTEGERS],
                    *[[(0, 0), (bad, 1)] for bad in NO_INTEGERS]]:
            with self.subTest(bad=bad):
                self.assert_state(0, [bad])
                self.assert_state(0, [bad, good])
                self.assert_state(1, [good, bad])
                self.assert_state(0, [bad, bad])

    def test_the_next_state_is_one_of_the_sender(self):
        self.assert_state(0, [[(0, 1)]])
        Sender([[(0, 1)], [(0, 1)]])
        self.assert_state(1, [[(0, 1)], [(0, 2)]])

    def test_states(self):
        sender = turns()
        for state in [2, -1, 10 ** 60, *NO_INTEGERS]:
            with self.subTest(state=state):
                self.assertRaises(NoState, sender.ways, state)
                self.assertRaises(NoState, sender.states_behind, state, [0])
                self.assertRaises(NoState, sender.states_behind, state, None)
        self.assertRaises(NoState, Sender([[(0, 0)]]).ways, 1)

    def test_words(self):
        sender = turns()
        for word in [*NO_LISTS, (0, 1), [3], [-1], [1, 0, 3], [10 ** 60], *[[bad] for bad in NO_INTEGERS],
                     *[[1, bad] for bad in NO_INTEGERS], [0] * 40 + [None], [(1, ())]]:
            with self.subTest(word=word):
                self.assertRaises(NoWord, sender.states_behind, 0, word)
                self.assertRaises(NoWord, sender.lets, word)

    def test_a_word_may_have_kinds_that_the_sender_never_emits(self):
        self.assertEqual(turns().states_behind(0, [2]), [])
        self.assertIs(turns().lets([1, 2]), False)


class UnlikeTest(unittest.TestCase):

    def setUp(self):
        # One kind only; a claim on its one cell for each control or key.
        self.listener = Listener([1], [[(0, [[0, 0, 1]])]], [[]])

    def calls(self, sender, wrong):
        """Yield all calls with a listener and a sender; what follows them is right or wrong."""
        claims = None if wrong else [[]]
        joint = None if wrong else {(state, 0, 0): [] for state in range(sender.state_count())}
        many = -1 if wrong else 3
        for function, more in [
                (reach, ()), (settle, (claims,)), (table_fault, (claims, [])), (run_fault, (claims, [])), (entries, ()),
                (after, (many,)), (level, ("0" if wrong else [0],)), (when_sure, (joint,)), (late_run, (joint, many)),
                (sure_cells, ()), (last_claims, ())]:
            yield function, (self.listener, sender, *more)

    def test_a_kind_that_the_listener_does_not_have(self):
        for ways in ([[(1, 0)]], [[(0, 0), (2, 0)]], [[(0, 0)], [(1, 0)]], [[(0, 1)], [(0, 0), (2, 1)]]):
            for wrong in (False, True):
                for function, arguments in self.calls(Sender(ways), wrong):
                    with self.subTest(function=function.__name__, ways=ways, wrong=wrong):
                        self.assertRaises(Unlike, function, *arguments)

    def test_fewer_kinds_than_the_listener_has_are_no_fault(self):
        self.listener = Listener([1, 0, 2], [[(0, [[0, 0, 1]]), (0, [[0, 1]]), (0, [[0, 1, 0, 0]])]], [[]])
        for ways in ([[(0, 0)]], [[(1, 0)]], [[(2, 0)]], [[(0, 1)], [(2, 0)]]):
            for function, arguments in self.calls(Sender(ways), False):
                with self.subTest(function=function.__name__, ways=ways):
                    function(*arguments)


class SenderLeavesAloneTest(unittest.TestCase):

    def test_creation_changes_nothing_and_copies(self):
        ways = [[(0, 0), (0, 1)], [(2, 0)]]
        sender = Sender(ways)
        self.assertEqual(ways, [[(0, 0), (0, 1)], [(2, 0)]])
        ways[0].pop()
        ways[1][0] = (1, 1)
        ways.append([])
        self.assertEqual((sender.state_count(), sender.ways(0), sender.ways(1)), (2, [(0, 0), (0, 1)], [(2, 0)]))
        self.assertEqual(sender.states_behind(0, [0, 2]), [0])

    def test_one_list_for_both_states_may_be_handed_in(self):
        of_state = [(0, 1)]
        sender = Sender([of_state, of_state])
        of_state.clear()
        self.assertEqual((sender.ways(0), sender.ways(1)), ([(0, 1)], [(0, 1)]))

    def test_what_is_returned_belongs_to_the_caller(self):
        sender = forks()
        for call, arguments in [(sender.ways, (0,)), (sender.states_behind, (0, [0])), (sender.states_behind, (0, [])),
                                (sender.states_behind, (0, [1]))]:
            kept = copy.deepcopy(arguments)
            first = call(*arguments)
            expected = list(first)
            first.append(7)
            first.reverse()
            self.assertEqual(call(*arguments), expected)
            self.assertEqual(arguments, kept)
        self.assertEqual(sender.ways(0), [(0, 0), (0, 1)])

    def test_a_failed_creation_changes_nothing(self):
        sender = forks()
        self.assertRaises(NoSender, sender.__init__, [[(0, 0)], None])
        self.assertEqual((sender.state_count(), sender.ways(0), sender.ways(1)), (2, [(0, 0), (0, 1)], [(2, 0)]))


class DrawnSendersTest(unittest.TestCase):

    def test_all_ways_are_tried(self):
        draw = random.Random(150)
        for _ in range(60):
            ways = drawn_ways(draw, draw.randint(1, 3))
            sender = Sender(ways)
            for length in range(5):
                for word in itertools.product(range(3), repeat=length):
                    found = [reference.paths(ways, state, word) for state in range(len(ways))]
                    for state, behind in enumerate(found):
                        self.assertEqual(sender.states_behind(state, list(word)), behind)
                    self.assertIs(sender.lets(list(word)), found[0] != [])


if __name__ == "__main__":
    unittest.main()
