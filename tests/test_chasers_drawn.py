"""Chasers on drawn inputs, beside slow computations and late ones that hear what is spoken."""

import copy
import random
import unittest

import reference
import slow_chase
import slow_forms
from drawing import (
    drawn_chase, drawn_let_word, drawn_message, drawn_stand, drawn_ways, heard, small_message, spoiled_table)
from latecomers.alike import parted
from latecomers.chasers import Chaser, brings_alike, brings_level, chase_fault, chase_run_fault
from latecomers.listeners import Listener
from latecomers.senders import Sender


class Case:
    """A drawn listener, a chaser with the same burdens, and a sender."""

    def __init__(self, draw):
        self.draw = draw
        self.parts, self.chaser = drawn_chase(draw)
        self.ways = drawn_ways(draw, len(self.parts[0]))
        self.world = slow_chase.chase_world(self.ways, self.parts, self.chaser)
        self.objects = Listener(*self.parts), Sender(self.ways), Chaser(*self.chaser)

    def messages(self, length):
        word, _ = drawn_let_word(self.draw, self.ways, 0, length)
        return [small_message(self.draw, self.parts[0], kind) for kind in word]


class DrawnChasersTest(unittest.TestCase):

    @classmethod
    def setUpClass(cls):
        cls.draw = random.Random(310)
        cls.all_cases = [Case(cls.draw) for _ in range(260)]

    def test_a_chaser_hears_as_a_listener_and_speaks_the_values_of_its_rows(self):
        for case in self.all_cases:
            chaser, twin = case.objects[2], Listener(*case.chaser[:2], [[] for _ in case.chaser[1]])
            self.assertEqual(chaser.start(), twin.start())
            for _ in range(3):
                stand = drawn_stand(self.draw, (None, case.chaser[1], None))
                message = drawn_message(self.draw, case.parts[0], self.draw.randrange(len(case.parts[0])))
                self.assertEqual(chaser.hear(stand, message), heard(case.chaser, stand, message))
                self.assertEqual(chaser.hear(stand, message), twin.hear(stand, message))
                told = chaser.spoken(stand)
                self.assertEqual(told, slow_chase.spoken(case.chaser, stand))
                self.assertEqual(case.objects[0].hear_all(case.objects[0].start(), told),
                                 slow_chase.late_stand(case.parts, case.chaser, stand))

    def test_brings_level_and_brings_alike_agree_with_late_ones(self):
        words, lengths = {}, {}
        for case in self.all_cases:
            answers = []
            for alike, function in ((False, brings_level), (True, brings_alike)):
                word, found = function(*case.objects)
                expected = slow_chase.brought(case.ways, case.parts, case.chaser, alike)
                self.assertEqual((word, found if word != "run" else len(found)), expected)
                if word == "run":
                    self.assertIsNone(slow_chase.chase_run_fault(case.ways, case.parts, case.chaser, found, alike))
                    self.assertIsNone(chase_run_fault(*case.objects, found, alike=alike))
                    lengths[len(found)] = lengths.get(len(found), 0) + 1
                else:
                    self.assertIsNone(chase_fault(*case.objects, found, alike=alike))
                    for _ in range(4):
                        messages = case.messages(self.draw.randint(0, 7))
                        self.assertEqual(chase_run_fault(*case.objects, messages, alike=alike), ("kept",))
                        self.check_late_one(case, messages, alike)
                answers.append(word)
            words[tuple(answers)] = words.get(tuple(answers), 0) + 1
        self.assertEqual(set(words), {("level", "alike"), ("run", "alike"), ("run", "run")}, words)
        self.assertGreater(min(words.values()), 25, words)
        self.assertTrue({0, 1, 2} <= set(lengths), lengths)

    def check_late_one(self, case, messages, alike):
        """Check that a late one that hears what is spoken behind the messages is level, or looks alike for ever."""
        listener, sender, chaser = case.objects
        one, late = slow_chase.stands_behind(case.parts, case.chaser, messages)
        if not alike:
            self.assertEqual(one, late)
            return
        for state in reference.ends(case.ways, 0, messages):
            self.assertIsNone(parted(listener, sender, state, one, late))
            word, _ = drawn_let_word(self.draw, case.ways, state, 4)
            for kind in word:
                self.assertEqual(slow_forms.seen(case.parts, one), slow_forms.seen(case.parts, late))
                message = small_message(self.draw, case.parts[0], kind)
                one, late = heard(case.parts, one, message), heard(case.parts, late, message)

    def test_chase_fault_returns_the_first_fault(self):
        words = {}
        for case in self.all_cases:
            for base in (reference.listed(case.world.least_table()), reference.closed_greater(self.draw, case.world)):
                for thing in (base, spoiled_table(self.draw, base)):
                    before = copy.deepcopy(thing)
                    for alike in (False, True):
                        expected = slow_chase.chase_fault(case.ways, case.parts, case.chaser, thing, alike)
                        self.assertEqual(chase_fault(*case.objects, thing, alike=alike), expected)
                        word = (alike, expected[0] if expected else None)
                        words[word] = words.get(word, 0) + 1
                    self.assertEqual(thing, before)
        self.assertEqual(len(words), 10, words)
        self.assertGreater(min(words.values()), 20, words)

    def test_chase_run_fault_returns_the_first_fault(self):
        words = {}
        for case in self.all_cases:
            for _ in range(4):
                thing = case.messages(self.draw.choice([0, 1, 2, 5, 20]))
                for _ in range(self.draw.choice([0, 1, 1])):
                    if thing:
                        kind = self.draw.randrange(len(case.parts[0]))
                        thing[self.draw.randrange(len(thing))] = self.draw.choice(
                            [small_message(self.draw, case.parts[0], kind)] * 4 + [None, (kind, (True,)), (3, ()), [kind, ()]])
                for alike in (False, True):
                    expected = slow_chase.chase_run_fault(case.ways, case.parts, case.chaser, thing, alike)
                    self.assertEqual(chase_run_fault(*case.objects, thing, alike=alike), expected)
                    word = (alike, expected[0] if expected else None)
                    words[word] = words.get(word, 0) + 1
        self.assertEqual(len(words), 8, words)
        self.assertGreater(min(words.values()), 30, words)


if __name__ == "__main__":
    unittest.main()
