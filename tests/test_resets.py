"""Reset words: the examples, the edges, the errors, what calls leave alone, and drawn ones beside all words at stands."""

import itertools
import random
import unittest

import reference
from drawing import drawn_ways, heard, plain_parts, settable_parts, shifting_parts
from latecomers.errors import NoMany, Unlike
from latecomers.late import level, when_sure
from latecomers.listeners import Listener
from latecomers.resets import reset_fault, reset_word
from latecomers.senders import Sender
from samples import (
    NO_INTEGERS, NO_LISTS, adder, anything, check_calls, check_raises, counter, odd_things, pair, shifter, steady, turns)


def gatherer():
    """Three controls: kind 0 moves control 0 to 1 and 1 to 2, kind 1 sets the cell at controls 0 and 2 only."""
    keep, fix = [[0, 1]], [[5, 0]]
    return Listener([0, 0], [[(1, keep), (0, fix)], [(2, keep), (1, keep)], [(2, keep), (2, fix)]], [[], [], []])


class ResetWordTest(unittest.TestCase):

    def test_examples(self):
        self.assertEqual(reset_word(adder(), anything(), 3), [0])

    def test_the_word_is_as_short_as_possible(self):
        self.assertEqual(reset_word(shifter(), steady(), 5), [0, 0, 0])
        self.assertEqual(reset_word(shifter(), steady(), 3), [0, 0, 0])
        self.assertIsNone(reset_word(shifter(), steady(), 2))
        self.assertEqual(reset_word(pair(), turns(), 5), [0])
        self.assertEqual(reset_word(gatherer(), anything(), 5), [0, 0, 1])
        self.assertIsNone(reset_word(gatherer(), anything(), 2))

    def test_none(self):
        for most in range(6):
            self.assertIsNone(reset_word(counter(), steady(), most))
            self.assertIsNone(reset_word(adder(), Sender([[(1, 0)]]), most))

    def test_the_empty_word_never_is_one(self):
        for listener, sender in [(adder(), anything()), (shifter(), steady()), (pair(), turns())]:
            self.assertIsNone(reset_word(listener, sender, 0))

    def test_the_word_is_let_from_some_state(self):
        # In turns kind 0 is emitted from state 1, which is enough.
        self.assertEqual(reset_word(adder(), turns(), 1), [0])
        # Two times kind 0 is let from nowhere, so the word needs kind 1 between.
        self.assertEqual(reset_word(gatherer(), Sender([[(0, 1)], [(1, 0)]]), 5), [0, 1, 0, 1])
        self.assertIsNone(reset_word(gatherer(), Sender([[(0, 1)], [(1, 0)]]), 3))
        self.assertIsNone(reset_word(gatherer(), Sender([[(0, 0)], [(1, 1)]]), 5))

    def test_the_state_need_not_be_reached(self):
        self.assertEqual(reset_word(adder(), Sender([[(1, 0)], [(0, 1)]]), 2), [0])
        self.assertEqual(reset_word(gatherer(), Sender([[(1, 0)], [(0, 1), (1, 0)]]), 4), [0, 0, 1])

    def test_stands_of_unlike_controls_count_though_they_are_not_reached(self):
        listener = Listener([1], [[(0, [[0, 0, 1]])], [(1, [[0, 0, 1]])]], [[], []])
        self.assertIsNone(reset_word(listener, steady(), 5))

    def test_what_is_carried(self):
        # Both controls take the integer, but not in the same way; behind a second message they do.
        listener = Listener([1], [[(0, [[0, 0, 1]])], [(0, [[0, 0, 2]])]], [[], []])
        self.assertEqual(reset_word(listener, steady(), 5), [0, 0])


class ResetFaultTest(unittest.TestCase):

    def test_examples(self):
        self.assertEqual(reset_fault(adder(), anything(), [1]), ("cell", 0, 0, 0))

    def test_without_fault(self):
        for listener, sender, words in [(adder(), anything(), [[0], [0, 1], [1, 0], [1, 0, 1, 1, 1, 1, 1, 1, 1, 1, 1, 1]]),
                                        (shifter(), steady(), [[0] * 3, [0] * 12]), (adder(), turns(), [[0], [1, 0], [0, 1, 0]]),
                                        (gatherer(), anything(), [[0, 0, 1], [1, 0, 1, 0, 1]])]:
            for word in words:
                self.assertIsNone(reset_fault(listener, sender, word))

    def test_form(self):
        for thing in [*[item for item in odd_things() if item not in ([], [0])], *NO_LISTS, (0,), {0: 0}, [2], [-1], [0, 2], [None],
                      ["0"], [[0]], [0] * 13, [1] * 60, *[[bad] for bad in NO_INTEGERS], *[[0, bad] for bad in NO_INTEGERS]]:
            for sender in (anything(), turns(), Sender([[(1, 0)]])):
                with self.subTest(thing=thing):
                    self.assertEqual(reset_fault(adder(), sender, thing), ("form",))

    def test_let(self):
        for word in ([0, 0], [1, 1], [1, 0, 0], [0, 1, 0, 1, 1]):
            self.assertEqual(reset_fault(adder(), turns(), word), ("let",))
        self.assertEqual(reset_fault(adder(), Sender([[(1, 0)]]), [0]), ("let",))
        self.assertEqual(reset_fault(adder(), Sender([[(1, 0)], [(0, 0), (1, 1)]]), [0, 0]), ("let",))
        self.assertIsNone(reset_fault(adder(), Sender([[(1, 0)], [(0, 0), (1, 1)]]), [0, 1]))

    def test_the_empty_word(self):
        self.assertEqual(reset_fault(adder(), turns(), []), ("cell", 0, 0, 0))
        self.assertEqual(reset_fault(shifter(), steady(), []), ("cell", 0, 0, 0))
        self.assertEqual(reset_fault(counter(), steady(), []), ("cell", 0, 0, 0))

    def test_control(self):
        self.assertEqual(reset_fault(gatherer(), anything(), [1]), ("control", 0, 1))
        fixed = [[7, 0]]
        listener = Listener([0, 0], [[(0, fixed), (1, fixed)], [(0, fixed), (1, fixed)], [(1, fixed), (1, fixed)]], [[], [], []])
        self.assertEqual(reset_fault(listener, anything(), [0]), ("control", 0, 2))
        self.assertIsNone(reset_fault(listener, anything(), [1]))
        self.assertIsNone(reset_fault(listener, anything(), [0, 0]))
        # The control comes before the cells of the same pair.
        other = Listener([0], [[(0, [[1, 0]])], [(1, [[2, 0]])]], [[], []])
        self.assertEqual(reset_fault(other, steady(), [0]), ("control", 0, 1))
        # A cell of an earlier pair comes before it.
        kept = Listener([0], [[(0, [[0, 1]])], [(1, [[2, 0]])]], [[], []])
        self.assertEqual(reset_fault(kept, steady(), [0]), ("cell", 0, 0, 0))

    def test_cell(self):
        self.assertEqual(reset_fault(shifter(), steady(), [0]), ("cell", 0, 0, 1))
        self.assertEqual(reset_fault(shifter(), steady(), [0, 0]), ("cell", 0, 0, 2))
        self.assertEqual(reset_fault(gatherer(), anything(), [0, 0]), ("cell", 0, 0, 0))
        for rows, fault in [(([[1, 0, 0, 0]], [[2, 0, 0, 0]]), ("cell", 0, 1, 0)), (([[1, 0, 0, 1]], [[1, 0, 0, 2]]), ("cell", 0, 1, 0)),
                            (([[1, 0, 0, 0]], [[1, 0, 1, 0]]), ("cell", 0, 1, 0)), (([[1, 0, 0, 3]], [[1, 0, 0, 3]]), None),
                            (([[1, 0, 3, 0]], [[1, 0, 3, 0]]), ("cell", 0, 0, 0))]:
            one, other = [[[0, 0, 0, 1]] + part for part in rows]
            listener = Listener([1], [[(0, [one[1], one[0]])], [(0, [other[1], other[0]])]], [[], []])
            self.assertEqual(reset_fault(listener, steady(), [0]), fault)
            listener = Listener([1], [[(0, one)], [(0, other)]], [[], []])
            expected = fault and (*fault[:-1], 1)
            self.assertEqual(reset_fault(listener, steady(), [0]), expected)

    def test_pairs_are_taken_in_order(self):
        # Control 1 keeps its cell; (0, 1) comes before (1, 1), and (0, 2) behind both of (0, 0) and (0, 1).
        fixed, kept = [[4, 0]], [[0, 1]]
        listener = Listener([0], [[(0, fixed)], [(0, kept)], [(1, fixed)]], [[], [], []])
        self.assertEqual(reset_fault(listener, steady(), [0]), ("cell", 0, 1, 0))
        listener = Listener([0], [[(0, fixed)], [(0, fixed)], [(0, kept)]], [[], [], []])
        self.assertEqual(reset_fault(listener, steady(), [0]), ("cell", 0, 2, 0))
        listener = Listener([0], [[(0, fixed)], [(0, fixed)], [(1, fixed)]], [[], [], []])
        self.assertEqual(reset_fault(listener, steady(), [0]), ("control", 0, 2))

    def test_twelve_kinds_with_many_integers(self):
        nine = Listener([2, 2], [[(0, [[9] * 6, [-9] * 6, [9, -9, 9, -9, 9, -9]])] * 2] * 3, [[]] * 3)
        self.assertEqual(reset_fault(nine, anything(), [0, 1] * 6), ("cell", 0, 0, 0))
        setter = Listener([2], [[(0, [[9, 0, 0, 9, 9], [1, 9, 0, -9, 9]])]] * 3, [[]] * 3)
        self.assertIsNone(reset_fault(setter, steady(), [0] * 12))
        self.assertEqual(reset_fault(setter, steady(), [0]), ("cell", 0, 0, 1))


class ResetErrorsTest(unittest.TestCase):

    def test_many(self):
        for most in [*NO_INTEGERS, -1, 6, 10 ** 60, 2.0, "3", [1]]:
            check_raises(self, NoMany, {}, reset_word, adder(), anything(), most)

    def test_unlike_comes_first(self):
        check_raises(self, Unlike, {}, reset_word, counter(), anything(), 3)
        check_raises(self, Unlike, {}, reset_word, counter(), anything(), None)
        check_raises(self, Unlike, {}, reset_fault, counter(), anything(), [0])
        check_raises(self, Unlike, {}, reset_fault, counter(), Sender([[(0, 0)], [(2, 1)]]), None)


class ResetLeavesAloneTest(unittest.TestCase):

    def test_arguments_and_answers(self):
        listener, sender = gatherer(), anything()
        check_calls(self, [(reset_word, listener, sender, 5), (reset_word, listener, sender, 1), (reset_fault, listener, sender, [0, 0, 1]),
                           (reset_fault, listener, sender, [0, 0]), (reset_fault, listener, sender, [])])
        self.assertTrue(listener == gatherer())
        self.assertEqual(sender.ways(0), [(0, 0), (1, 0)])


def behind(parts, stand, word, numbers):
    for kind, carried in zip(word, numbers):
        stand = heard(parts, stand, (kind, carried))
    return stand


def unit_numbers(parts, word):
    """Return the integers that a word carries: all 0, and each of them alone 1."""
    burdens = [parts[0][kind] for kind in word]
    many = sum(burdens)
    for one in range(-1, many):
        flat = [int(at == one) for at in range(many)]
        yield [tuple(flat[sum(burdens[:at]):sum(burdens[:at + 1])]) for at in range(len(word))]


def slow_fault(parts, ways, word):
    """Return the first fault from stands whose cells are 0, or one of them 1, and such integers: that decides it."""
    if not any(reference.ends(ways, state, [(kind, ()) for kind in word]) for state in range(len(ways))):
        return ("let",)
    many = len(parts[1][0][0][1])
    choices = [tuple(int(at == one) for at in range(many)) for one in range(-1, many)]
    found = {control: [[behind(parts, (control, cells), word, numbers) for cells in choices]
                       for numbers in unit_numbers(parts, word)] for control in range(len(parts[1]))}
    for p, q in itertools.combinations_with_replacement(range(len(parts[1])), 2):
        pairs = [(one, other) for ones, others in zip(found[p], found[q]) for one in ones for other in others]
        if any(one[0] != other[0] for one, other in pairs):
            return ("control", p, q)
        for cell in range(many):
            if any(one[1][cell] != other[1][cell] for one, other in pairs):
                return ("cell", p, q, cell)
    return None


class DrawnResetsTest(unittest.TestCase):

    def setUp(self):
        self.draw = random.Random(340)

    def cases(self, many):
        for _ in range(many):
            chosen = self.draw.choice([plain_parts, settable_parts, settable_parts, shifting_parts])
            parts = chosen(self.draw)
            parts = parts if chosen is plain_parts else parts[0]
            if self.draw.random() < 0.3:
                # The same control behind a message and the same rows, wherever it is heard.
                kind = self.draw.randrange(len(parts[0]))
                for of_control in parts[1]:
                    of_control[kind] = (parts[1][0][kind][0], [list(row) for row in parts[1][0][kind][1]])
            ways = drawn_ways(self.draw, len(parts[0]))
            yield parts, ways, Listener(*parts), Sender(ways)

    def test_reset_word_agrees_with_trying_all_words(self):
        lengths = {}
        for parts, ways, listener, sender in self.cases(160):
            most = self.draw.choice([0, 1, 2, 3, 3, 4])
            shortest = None
            for length in range(most + 1):
                words = itertools.product(range(len(parts[0])), repeat=length)
                if any(slow_fault(parts, ways, word) is None for word in words):
                    shortest = length
                    break
            found = reset_word(listener, sender, most)
            self.assertEqual(None if found is None else len(found), shortest)
            if found is not None:
                self.assertIsNone(slow_fault(parts, ways, found))
                self.assertIsNone(reset_fault(listener, sender, found))
                self.check_drawn_stands(parts, found)
            lengths[shortest] = lengths.get(shortest, 0) + 1
        self.assertTrue({None, 1, 2, 3} <= set(lengths), lengths)

    def check_drawn_stands(self, parts, word):
        many = len(parts[1][0][0][1])
        for _ in range(5):
            numbers = [tuple(self.draw.randint(-99, 99) for _ in range(parts[0][kind])) for kind in word]
            stands = {behind(parts, (control, tuple(self.draw.randint(-99, 99) for _ in range(many))), word, numbers)
                      for control in range(len(parts[1])) for _ in range(3)}
            self.assertEqual(len(stands), 1)

    def test_reset_fault_returns_the_first_fault(self):
        words = {}
        for parts, ways, listener, sender in self.cases(250):
            for _ in range(5):
                length = self.draw.choice([0, 1, 2, 3, 5, 12])
                word = [self.draw.randrange(len(parts[0])) for _ in range(length)]
                if self.draw.random() < 0.6:
                    word, state = [], self.draw.randrange(len(ways))
                    for _ in range(length):
                        kind, state = self.draw.choice(ways[state])
                        word.append(kind)
                expected = slow_fault(parts, ways, word)
                self.assertEqual(reset_fault(listener, sender, word), expected)
                name = expected[0] if expected else None
                words[name] = words.get(name, 0) + 1
        self.assertEqual(set(words), {"let", "control", "cell", None})
        self.assertGreater(min(words.values()), 80, words)

    def test_if_all_let_words_are_reset_words_the_cells_are_level(self):
        compared = 0
        for parts, ways, listener, sender in self.cases(200):
            for length in range(1, 4):
                words = itertools.product(range(len(parts[0])), repeat=length)
                if all(slow_fault(parts, ways, word) in (None, ("let",)) for word in words):
                    answer = when_sure(listener, sender, level(listener, sender, list(range(listener.cell_count()))))
                    self.assertEqual(answer[0], "from")
                    self.assertLessEqual(answer[1], length)
                    compared += 1
                    break
        self.assertGreater(compared, 20)


if __name__ == "__main__":
    unittest.main()
