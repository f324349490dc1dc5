"""Two listeners that look alike on drawn inputs, beside slow computations and drawn let lists."""

import copy
import random
import unittest

import reference
import slow_forms
from drawing import (
    drawn_let_word, drawn_ways, heard, plain_parts, same_in_other_words, small_message, spoiled_parts, spoiled_table,
    with_shows)
from latecomers.listeners import Listener
from latecomers.pairs import alike_listeners, pair_fault, pair_run_fault
from latecomers.senders import Sender


class Case:
    """Two drawn listeners with equal burdens, most often nearly the same one, and a sender."""

    def __init__(self, draw):
        self.draw = draw
        self.one = with_shows(draw, plain_parts(draw))
        self.other = same_in_other_words(draw, self.one)
        choice = draw.random()
        if choice < 0.5:
            self.other = spoiled_parts(draw, self.other)
        elif choice < 0.6:
            self.other = with_shows(draw, plain_parts(draw, burdens=list(self.one[0])))
        if draw.random() < 0.5:
            self.one, self.other = self.other, self.one
        self.ways = drawn_ways(draw, len(self.one[0]))
        self.world = reference.World(self.ways, self.one, self.other)
        self.objects = Listener(*self.one), Listener(*self.other), Sender(self.ways)

    def messages(self, length):
        word, _ = drawn_let_word(self.draw, self.ways, 0, length)
        return [small_message(self.draw, self.one[0], kind) for kind in word]


class DrawnPairsTest(unittest.TestCase):

    @classmethod
    def setUpClass(cls):
        cls.draw = random.Random(300)
        cls.all_cases = [Case(cls.draw) for _ in range(350)]

    def test_alike_listeners_agrees_with_hearing(self):
        lengths, shapes = {}, {}
        for case in self.all_cases:
            word, found = alike_listeners(*case.objects)
            expected = slow_forms.alike_listeners(case.ways, case.one, case.other)
            self.assertEqual((word, found if word == "alike" else len(found)), expected)
            if word == "alike":
                self.assertTrue(case.world.is_table(found))
                self.assertIsNone(case.world.open_way(reference.as_dict(found)))
                self.assertIsNone(pair_fault(*case.objects, found))
                for _ in range(4):
                    messages = case.messages(self.draw.randint(0, 7))
                    self.assertEqual(pair_run_fault(*case.objects, messages), ("kept",))
                    self.check_that_they_see_the_same(case, messages)
            else:
                self.assertIsNone(slow_forms.pair_run_fault(case.ways, case.one, case.other, found))
                self.assertIsNone(pair_run_fault(*case.objects, found))
            length = None if word == "alike" else len(found)
            lengths[length] = lengths.get(length, 0) + 1
            shape = tuple((len(parts[1]), len(parts[1][0][0][1])) for parts in (case.one, case.other))
            shapes[shape[0] == shape[1]] = shapes.get(shape[0] == shape[1], 0) + 1
        self.assertTrue({None, 0, 1, 2} <= set(lengths) and lengths[None] > 80, lengths)
        self.assertGreater(min(shapes.values()), 60, shapes)

    def check_that_they_see_the_same(self, case, messages):
        stand, late = reference.start_of(case.one), reference.start_of(case.other)
        for message in messages:
            stand, late = heard(case.one, stand, message), heard(case.other, late, message)
            self.assertEqual(slow_forms.seen(case.one, stand), slow_forms.seen(case.other, late))

    def test_pair_fault_returns_the_first_fault(self):
        words = {}
        for case in self.all_cases[:200]:
            for base in (reference.listed(case.world.least_table()), reference.closed_greater(self.draw, case.world)):
                for thing in (base, spoiled_table(self.draw, base), spoiled_table(self.draw, base)):
                    before = copy.deepcopy(thing)
                    expected = slow_forms.pair_fault(case.ways, case.one, case.other, thing)
                    self.assertEqual(pair_fault(*case.objects, thing), expected)
                    self.assertEqual(thing, before)
                    word = expected[0] if expected else None
                    words[word] = words.get(word, 0) + 1
        self.assertEqual(set(words), {"form", "start", "closed", "shows", None})
        self.assertGreater(min(words.values()), 25, words)

    def test_pair_run_fault_returns_the_first_fault(self):
        words = {}
        for case in self.all_cases:
            for _ in range(4):
                thing = case.messages(self.draw.choice([0, 1, 2, 5, 20]))
                for _ in range(self.draw.choice([0, 0, 1])):
                    if thing:
                        kind = self.draw.randrange(len(case.one[0]))
                        thing[self.draw.randrange(len(thing))] = self.draw.choice(
                            [small_message(self.draw, case.one[0], kind)] * 4 + [None, (kind, (True,)), (3, ()), [kind, ()]])
                expected = slow_forms.pair_run_fault(case.ways, case.one, case.other, thing)
                self.assertEqual(pair_run_fault(*case.objects, thing), expected)
                word = expected[0] if expected else None
                words[word] = words.get(word, 0) + 1
        self.assertEqual(set(words), {"form", "way", "kept", None})
        self.assertGreater(min(words.values()), 40, words)


if __name__ == "__main__":
    unittest.main()
