"""Stands that look alike on drawn inputs, beside slow computations and drawn let lists."""

import copy
import random
import unittest

import reference
import slow_forms
from drawing import (
    drawn_let_word, drawn_parts, drawn_ways, heard, plain_parts, small_message, spoil_item, with_shows)
from independent import canonical, null_vectors, value, whole
from latecomers.alike import forms_fault, forms_table, part_fault, parted
from latecomers.late import when_sure
from latecomers.listeners import Listener
from latecomers.senders import Sender


class Case:
    """A drawn listener with shows and a sender, and the least forms from the slow computation."""

    def __init__(self, draw):
        self.draw = draw
        self.parts = drawn_parts(draw) if draw.random() < 0.1 else with_shows(draw, plain_parts(draw))
        self.ways = drawn_ways(draw, len(self.parts[0]))
        self.listener, self.sender = Listener(*self.parts), Sender(self.ways)
        self.world = reference.pairs_world(self.ways, self.parts)
        self.forms = slow_forms.least_forms(self.ways, self.parts)
        self.count = len(self.parts[1][0][0][1])

    def stands(self, state):
        """Return two stands, often ones that are alike at the state."""
        controls = len(self.parts[1])
        one, other = self.draw.randrange(controls), self.draw.randrange(controls)
        if self.draw.random() < 0.7:
            found = self.alike_stands(state, one, other)
            if found:
                return found
        most = self.draw.choice([1, 9, 10 ** 60 - 1])
        cells = tuple(self.draw.randint(-most, most) for _ in range(self.count))
        if self.draw.random() < 0.3:
            return (one, cells), (other, cells)
        return (one, cells), (other, tuple(self.draw.randint(-most, most) for _ in range(self.count)))

    def alike_stands(self, state, one, other):
        """Return two stands of these controls on which all forms vanish, or None if none are found."""
        vectors = [whole(vector) for vector in null_vectors(self.world.width, self.forms[state, one, other])]
        for _ in range(20):
            total = [0] * self.world.width
            for vector in vectors:
                factor = self.draw.randint(-3, 3)
                total = [x + factor * y for x, y in zip(total, vector)]
            if abs(total[0]) == 1:
                total = [total[0] * entry for entry in total]
                return (one, tuple(total[1:1 + self.count])), (other, tuple(total[1 + self.count:]))
        return None

    def are_alike(self, state, one, other):
        return all(value(form, [1, *one[1], *other[1]]) == 0 for form in self.forms[state, one[0], other[0]])

    def messages(self, state, length):
        word, _ = drawn_let_word(self.draw, self.ways, state, length)
        return [small_message(self.draw, self.parts[0], kind) for kind in word]

    def see_the_same(self, one, other, messages):
        """Tell whether the two stands see equal tuples behind each part of the list from its beginning."""
        same = [slow_forms.seen(self.parts, one) == slow_forms.seen(self.parts, other)]
        for message in messages:
            one, other = heard(self.parts, one, message), heard(self.parts, other, message)
            same.append(slow_forms.seen(self.parts, one) == slow_forms.seen(self.parts, other))
        return all(same)


class DrawnAlikeTest(unittest.TestCase):

    @classmethod
    def setUpClass(cls):
        cls.draw = random.Random(280)
        cls.all_cases = [Case(cls.draw) for _ in range(200)]

    def test_forms_table_is_the_least_one(self):
        sizes = {}
        for case in self.all_cases:
            table = forms_table(case.listener, case.sender)
            self.assertEqual(table, case.forms)
            self.assertTrue(all(case.world.is_space(basis) for basis in table.values()))
            self.assertIsNone(forms_fault(case.listener, case.sender, table))
            self.assertIn(when_sure(case.listener, case.sender, table)[0], ("from", "never"))
            for basis in table.values():
                sizes[len(basis)] = sizes.get(len(basis), 0) + 1
        self.assertTrue({0, 1, 2, 3} <= set(sizes), sizes)

    def test_forms_table_lies_in_every_closed_dict_with_the_shows(self):
        for case in self.all_cases[:60]:
            shown = slow_forms.all_show_differences(case.world, case.parts, case.parts)
            more = {key: canonical(shown[key] + [[self.draw.randint(-1, 1) for _ in range(case.world.width)]]
                                   if self.draw.random() < 0.3 else shown[key]) for key in shown}
            greater = slow_forms.closure(case.world, more)
            self.assertIsNone(forms_fault(case.listener, case.sender, greater))
            table = forms_table(case.listener, case.sender)
            for key, basis in table.items():
                self.assertTrue(reference.lies_in(basis, greater[key]))

    def test_parted_agrees_with_the_forms_and_with_hearing(self):
        lengths = {}
        for case in self.all_cases:
            for _ in range(6):
                state = self.draw.randrange(len(case.ways))
                one, other = case.stands(state)
                found = parted(case.listener, case.sender, state, one, other)
                self.assertEqual(found is None, case.are_alike(state, one, other))
                if found is None:
                    for _ in range(4):
                        messages = case.messages(state, self.draw.randint(0, 7))
                        self.assertTrue(case.see_the_same(one, other, messages))
                        self.assertEqual(part_fault(case.listener, case.sender, state, one, other, messages), ("kept",))
                else:
                    self.assertIsNone(slow_forms.part_fault(case.ways, case.parts, state, one, other, found))
                    self.assertIsNone(part_fault(case.listener, case.sender, state, one, other, found))
                    self.assertEqual(len(found), slow_forms.shortest_part(case.ways, case.parts, state, one, other))
                length = None if found is None else len(found)
                lengths[length] = lengths.get(length, 0) + 1
        self.assertTrue({None, 0, 1, 2} <= set(lengths) and lengths[None] > 100, lengths)

    def test_part_fault_returns_the_first_fault(self):
        words = {}
        for case in self.all_cases:
            for _ in range(8):
                state = self.draw.randrange(len(case.ways))
                one, other = case.stands(state)
                thing = case.messages(self.draw.choice([state, state, 0]), self.draw.choice([0, 1, 2, 4, 20]))
                for _ in range(self.draw.choice([0, 0, 1])):
                    if thing:
                        kind = self.draw.randrange(len(case.parts[0]))
                        thing[self.draw.randrange(len(thing))] = self.draw.choice(
                            [small_message(self.draw, case.parts[0], kind)] * 4 + [None, (kind, (True,)), (3, ()), [kind, ()]])
                expected = slow_forms.part_fault(case.ways, case.parts, state, one, other, thing)
                self.assertEqual(part_fault(case.listener, case.sender, state, one, other, thing), expected)
                word = expected[0] if expected else None
                words[word] = words.get(word, 0) + 1
        self.assertEqual(set(words), {"form", "way", "kept", None})
        self.assertGreater(min(words.values()), 40, words)

    def spoiled(self, table):
        """Return the dict with a space changed, or now and then without a key or with one more."""
        items = [(*key, copy.deepcopy(table[key])) for key in sorted(table)]
        spoil_item(self.draw, items)
        thing = {item[:-1]: item[-1] for item in items}
        if self.draw.random() < 0.5:
            thing = {**copy.deepcopy(table), **thing}
        choice = self.draw.random()
        if choice < 0.05 and thing:
            thing.popitem()
        elif choice < 0.1:
            thing[3, 0, 0] = []
        elif choice < 0.3 and thing:
            thing[self.draw.choice(sorted(thing))] = []
        return thing

    def test_forms_fault_returns_the_first_fault(self):
        words = {}
        for case in self.all_cases:
            for _ in range(5):
                base = case.forms
                if self.draw.random() < 0.5:
                    more = {key: canonical(base[key] + [[self.draw.randint(-1, 1) for _ in range(case.world.width)]]
                                           if self.draw.random() < 0.2 else base[key]) for key in base}
                    base = slow_forms.closure(case.world, more)
                if self.draw.random() < 0.2:
                    base = {key: canonical(forms) for key, forms in slow_forms.all_show_differences(
                        case.world, case.parts, case.parts).items()}
                for thing in (base, self.spoiled(base)):
                    before = copy.deepcopy(thing)
                    expected = slow_forms.forms_fault(case.ways, case.parts, thing)
                    self.assertEqual(forms_fault(case.listener, case.sender, thing), expected)
                    self.assertEqual(thing, before)
                    word = expected[0] if expected else None
                    words[word] = words.get(word, 0) + 1
        self.assertEqual(set(words), {"form", "shows", "closed", None})
        self.assertGreater(min(words.values()), 40, words)

    def test_never_goes_back_along_every_way(self):
        for case in self.all_cases:
            never = [1] + [0] * (case.world.width - 1)
            table = forms_table(case.listener, case.sender)
            for key in case.world.keys():
                for way in case.ways[key[0]]:
                    if reference.lies_in([never], table[case.world.behind(key, way)]):
                        self.assertTrue(reference.lies_in([never], table[key]))


if __name__ == "__main__":
    unittest.main()
