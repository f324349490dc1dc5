"""Reach, settle and their judges on drawn inputs, beside slow computations and drawn let lists."""

import itertools
import random
import unittest

import reference
from drawing import (
    drawn_forms, drawn_let_word, drawn_parts, drawn_ways, heard, plain_parts, small_message, spoiled_table)
from independent import canonical, value, vanishing
from latecomers.listeners import Listener
from latecomers.reach import reach, run_fault, settle, table_fault
from latecomers.senders import Sender


class DrawnReachTest(unittest.TestCase):

    def setUp(self):
        self.draw = random.Random(170)

    def cases(self, many):
        for _ in range(many):
            parts = self.draw.choice([plain_parts, plain_parts, drawn_parts])(self.draw)
            ways = drawn_ways(self.draw, len(parts[0]))
            yield parts, ways, Listener(*parts), Sender(ways)

    def drawn_claims(self, parts):
        cells = len(parts[1][0][0][1])
        return [drawn_forms(self.draw, 1 + cells, 3) for _ in parts[1]]

    def fitting_claims(self, parts, table):
        """Return claims of which most hold: what vanishes on all spaces of a control, and now and then another form."""
        world = reference.World([[]], parts)
        claims = []
        for control in range(len(parts[1])):
            vectors = [vector for key, basis in table.items() if key[1] == control for vector in basis]
            forms = vanishing(world.width, canonical(vectors))
            claims.append(self.draw.sample(forms, min(len(forms), self.draw.randint(0, 2))))
            if self.draw.random() < 0.2:
                claims[-1] += drawn_forms(self.draw, world.width, 1)
        return claims

    def any_claims(self, parts, table):
        return self.fitting_claims(parts, table) if self.draw.random() < 0.7 else self.drawn_claims(parts)

    def drawn_messages(self, parts, ways, length):
        word, _ = drawn_let_word(self.draw, ways, 0, length)
        return [small_message(self.draw, parts[0], kind) for kind in word]

    def test_reach_is_the_least_closed_table(self):
        for parts, ways, listener, sender in self.cases(250):
            world = reference.World(ways, parts)
            table = reach(listener, sender)
            self.assertTrue(world.is_table(table))
            self.assertIsNone(world.open_way(reference.as_dict(table)))
            self.assertEqual(table, reference.listed(world.least_table()))

    def test_what_is_heard_behind_let_lists_lies_in_reach(self):
        for parts, ways, listener, sender in self.cases(150):
            table = reference.as_dict(reach(listener, sender))
            for _ in range(6):
                messages = self.drawn_messages(parts, ways, self.draw.choice([0, 1, 2, 3, 8]))
                stand = listener.start()
                for message in messages:
                    stand = heard(parts, stand, message)
                ends = reference.ends(ways, 0, messages)
                self.assertTrue(ends)
                for state in ends:
                    self.assertTrue(reference.lies_in([[1, *stand[1]]], table[state, stand[0]]))

    def test_each_space_is_spanned_by_stands_behind_let_lists(self):
        compared = 0
        for parts, ways, listener, sender in self.cases(120):
            found = {}
            for length in range(5):
                for word in itertools.product(range(len(parts[0])), repeat=length):
                    for state in reference.paths(ways, 0, word):
                        for _ in range(3):
                            stand = listener.start()
                            for kind in word:
                                stand = heard(parts, stand, small_message(self.draw, parts[0], kind))
                            found.setdefault((state, stand[0]), []).append([1, *stand[1]])
            table = reference.as_dict(reach(listener, sender))
            self.assertFalse(set(found) - set(table))
            spanned = {key: canonical(vectors) for key, vectors in found.items()}
            for key in found:
                self.assertTrue(reference.lies_in(spanned[key], table[key]))
            compared += spanned == table
        self.assertGreater(compared, 60)

    def test_settle_returns_a_shortest_run_or_what_is_sure(self):
        words = {"sure": 0, "run": 0}
        for parts, ways, listener, sender in self.cases(300):
            table = reference.World(ways, parts).least_table()
            claims = self.any_claims(parts, table)
            word, found = settle(listener, sender, claims)
            words[word] += 1
            holds = all(reference.vanishes(form, basis) for (_, control), basis in table.items() for form in claims[control])
            self.assertEqual(word, "sure" if holds else "run")
            if word == "sure":
                self.assertEqual(found, reference.listed(table))
                self.assertIsNone(table_fault(listener, sender, claims, found))
                for _ in range(5):
                    messages = self.drawn_messages(parts, ways, self.draw.randint(0, 8))
                    self.assertFalse(self.broken(parts, claims, messages))
            else:
                self.assertTrue(reference.ends(ways, 0, found))
                self.assertTrue(self.broken(parts, claims, found))
                self.assertIsNone(run_fault(listener, sender, claims, found))
                self.assertEqual(len(found), self.shortest(parts, ways, claims))
        self.assertTrue(min(words.values()) > 60, words)

    def broken(self, parts, claims, messages):
        stand = (0, (0,) * len(parts[1][0][0][1]))
        for message in messages:
            stand = heard(parts, stand, message)
        return any(value(form, [1, *stand[1]]) for form in claims[stand[0]])

    def shortest(self, parts, ways, claims):
        """Return the least number of messages behind which a claim is broken, from the tables of exact lengths."""
        world = reference.World(ways, parts)
        table = {(0, 0): [[1] + [0] * (world.width - 1)]}
        for length in range(100):
            if not all(reference.vanishes(form, basis) for (_, control), basis in table.items()
                       for form in claims[control]):
                return length
            table = world.behind_one_more(table)
        self.fail("no run is that long")

    def test_table_fault_returns_the_first_fault(self):
        words = {}
        for parts, ways, listener, sender in self.cases(250):
            table = reference.closed_greater(self.draw, reference.World(ways, parts), 2)
            for thing in [table] + [spoiled_table(self.draw, table) for _ in range(4)]:
                claims = self.any_claims(parts, reference.as_dict(table))
                expected = reference.table_fault(ways, parts, claims, thing)
                self.assertEqual(table_fault(listener, sender, claims, thing), expected)
                word = expected[0] if expected else None
                words[word] = words.get(word, 0) + 1
        self.assertEqual(set(words), {"form", "start", "closed", "claim", None})
        self.assertGreater(min(words.values()), 25, words)

    def other_message(self, parts):
        """Return a message of any kind, or now and then something else."""
        kind = self.draw.randrange(len(parts[0]))
        return self.draw.choice([small_message(self.draw, parts[0], kind)] * 5 + [
            None, (kind, (True, 1)), (kind, (0,) * self.draw.randint(0, 3)), (3, ()), (kind,)])

    def expected_run_fault(self, parts, ways, claims, thing):
        for item in thing:
            if type(item) is not tuple or len(item) != 2 or type(item[0]) is not int or item[0] not in range(len(parts[0])):
                return ("form",)
            if len(item[1]) != parts[0][item[0]] or any(type(number) is not int for number in item[1]):
                return ("form",)
        index = reference.first_unlet(ways, 0, thing)
        if index is not None:
            return ("way", index)
        return None if self.broken(parts, claims, thing) else ("kept",)

    def test_run_fault_returns_the_first_fault(self):
        words = {}
        for parts, ways, listener, sender in self.cases(300):
            for _ in range(4):
                claims = self.drawn_claims(parts)
                thing = self.drawn_messages(parts, ways, self.draw.choice([0, 1, 2, 5, 20]))
                for _ in range(self.draw.choice([0, 0, 1, 1, 2])):
                    if thing:
                        thing[self.draw.randrange(len(thing))] = self.other_message(parts)
                expected = self.expected_run_fault(parts, ways, claims, thing)
                self.assertEqual(run_fault(listener, sender, claims, thing), expected)
                word = expected[0] if expected else None
                words[word] = words.get(word, 0) + 1
        self.assertEqual(set(words), {"form", "way", "kept", None})
        self.assertGreater(min(words.values()), 50, words)


if __name__ == "__main__":
    unittest.main()
