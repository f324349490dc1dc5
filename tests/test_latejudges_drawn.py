"""Judges of things about latecomers on drawn inputs, beside the same judgements computed slowly."""

import copy
import random
import unittest

import reference
from drawing import small_message, spoiled_table
from independent import canonical
from latecomers.late import late_run, when_sure
from latecomers.latejudges import from_fault, late_fault, never_fault
from test_late_drawn import Case


class DrawnLateJudgesTest(unittest.TestCase):

    @classmethod
    def setUpClass(cls):
        cls.draw = random.Random(270)
        cls.all_cases = [Case(cls.draw) for _ in range(110)]

    def claims(self, case):
        if self.draw.random() < 0.1:
            return {key: [] for key in case.world.keys()}
        return case.level_claims() if self.draw.random() < 0.3 else case.claims()

    def count(self, words, fault):
        word = fault[0] if fault else None
        words[word] = words.get(word, 0) + 1

    def chain(self, case, least):
        """Return a list of tables from the entries on, some of them repeated, some greater than they need be."""
        tables = [case.tables[0]] * self.draw.choice([1, 1, 2])
        while len(tables) <= least or self.draw.random() < 0.7:
            table = case.world.behind_one_more(tables[-1])
            if self.draw.random() < 0.3:
                # A closed table stays closed if it is followed by itself.
                table = tables[-1] if not case.world.open_way(tables[-1]) else table
            if self.draw.random() < 0.15:
                table = self.greater(case, table)
            tables.append(table)
        return [reference.listed(table) for table in tables]

    def greater(self, case, table):
        key = self.draw.choice(case.world.keys())
        vector = [self.draw.randint(-1, 1) for _ in range(case.world.width)]
        start = [1] + [0] * (case.world.width - 1)
        return {**table, key: canonical(table.get(key, [start]) + [vector])}

    def spoiled_chain(self, tables):
        tables = copy.deepcopy(tables)
        choice = self.draw.randrange(6)
        at = self.draw.randrange(len(tables))
        if choice < 3:
            tables[at] = spoiled_table(self.draw, tables[at])
        elif choice == 3:
            del tables[at]
        elif choice == 4:
            tables[at] = copy.deepcopy(self.draw.choice(tables))
        else:
            tables[at], tables[-1] = tables[-1], tables[at]
        return tables

    def test_from_fault_returns_the_first_fault(self):
        words = {}
        for case in self.all_cases:
            for _ in range(2):
                claims = self.claims(case)
                least = case.least(claims) or self.draw.randint(0, 3)
                good = self.chain(case, least)
                for thing in [good] + [self.spoiled_chain(good) for _ in range(3)]:
                    k = max(0, self.draw.choice([least, least, least + 1, len(thing) - 1, len(thing) - 2, len(thing), 0]))
                    before = copy.deepcopy(thing)
                    expected = reference.from_fault(case.ways, case.parts, claims, k, thing)
                    self.assertEqual(from_fault(case.listener, case.sender, claims, k, thing), expected)
                    self.assertEqual(thing, before)
                    self.count(words, expected)
        self.assertEqual(set(words), {"form", "entries", "next", "closed", "claim", None})
        self.assertGreater(min(words.values()), 20, words)

    def fed_by_itself(self, case):
        """Return a table that feeds itself, begun somewhere in the entries and kept by what it leads to."""
        joining = case.tables[0]
        table = {}
        for key in self.draw.sample(sorted(joining), self.draw.randint(1, len(joining))):
            basis = joining[key]
            some = self.draw.sample(basis, self.draw.randint(1, len(basis)))
            if any(vector[0] for vector in some):
                table[key] = canonical(some)
        for _ in range(20):
            behind = case.world.behind_one_more(table)
            smaller = {key: table[key] for key in table if key in behind and reference.lies_in(table[key], behind[key])}
            if smaller == table:
                break
            table = smaller
        return reference.listed(table)

    def test_never_fault_returns_the_first_fault(self):
        words = {}
        for case in self.all_cases:
            last = reference.listed(case.tables[-1])
            for base in (last, self.fed_by_itself(case), reference.listed(self.draw.choice(case.tables)),
                         reference.listed(self.greater(case, case.tables[-1]))):
                for thing in [base, spoiled_table(self.draw, base), spoiled_table(self.draw, base)]:
                    claims, before = self.claims(case), copy.deepcopy(thing)
                    expected = reference.never_fault(case.ways, case.parts, claims, thing)
                    self.assertEqual(never_fault(case.listener, case.sender, claims, thing), expected)
                    self.assertEqual(thing, before)
                    self.count(words, expected)
        self.assertEqual(set(words), {"form", "entries", "fed", "kept", None})
        self.assertGreater(min(words.values()), 40, words)

    def test_what_when_sure_returns_passes_one_of_the_two_and_nothing_passes_the_other(self):
        words = {"from": 0, "never": 0}
        for case in self.all_cases:
            for claims in (case.claims(), case.level_claims()):
                word, *found = when_sure(case.listener, case.sender, claims)
                words[word] += 1
                if word == "from":
                    least, tables = found
                    self.assertIsNone(from_fault(case.listener, case.sender, claims, least, tables))
                    for thing in (reference.listed(case.tables[-1]), self.fed_by_itself(case), tables[-1], tables[0]):
                        self.assertIsNotNone(never_fault(case.listener, case.sender, claims, thing))
                else:
                    self.assertIsNone(never_fault(case.listener, case.sender, claims, found[0]))
                    for _ in range(2):
                        thing = self.chain(case, 2)
                        for k in range(len(thing)):
                            self.assertIsNotNone(from_fault(case.listener, case.sender, claims, k, thing))
        self.assertGreater(min(words.values()), 40, words)

    def drawn_late_run(self, case, many):
        """Return a late run with drawn messages."""
        word = [self.draw.randrange(len(case.parts[0])) for _ in range(self.draw.randint(0, 3))]
        before = [small_message(self.draw, case.parts[0], kind) for kind in word]
        if self.draw.random() < 0.8:
            before = case.messages(0, self.draw.randint(0, 4))
        states = reference.ends(case.ways, 0, before) or [0]
        stand = (self.draw.randrange(len(case.parts[1])), tuple(self.draw.randint(-2, 2) for _ in range(case.count)))
        if self.draw.random() < 0.3:
            stand = reference.behind_all(case.parts, reference.start_of(case.parts), before)
        return before, stand, case.messages(self.draw.choice(states), many)

    def spoiled_late_run(self, case, thing):
        before, stand, messages = copy.deepcopy(thing)
        choice = self.draw.randrange(6)
        if choice < 4:
            chosen = before if choice == 0 else messages
            if chosen:
                kind = self.draw.randrange(len(case.parts[0]))
                chosen[self.draw.randrange(len(chosen))] = self.draw.choice(
                    [small_message(self.draw, case.parts[0], kind)] * 6 + [None, (kind,), (kind, (True,)), (3, ()), [kind, ()]])
        elif choice == 4:
            stand = self.draw.choice([(3, stand[1]), (stand[0], stand[1][1:]), (stand[0], list(stand[1])), None, (True, stand[1])])
        elif messages:
            messages.pop()
        return before, stand, messages

    def test_late_fault_returns_the_first_fault(self):
        words = {}
        for case in self.all_cases:
            for _ in range(8):
                many = self.draw.choice([0, 1, 1, 2, 3, 8])
                claims, good = self.claims(case), self.drawn_late_run(case, many)
                for thing in (good, self.spoiled_late_run(case, good)):
                    expected = reference.late_fault(case.ways, case.parts, claims, many, thing)
                    self.assertEqual(late_fault(case.listener, case.sender, claims, many, thing), expected)
                    self.count(words, expected)
        self.assertEqual(set(words), {"form", "before", "messages", "kept", None})
        self.assertGreater(min(words.values()), 40, words)

    def test_what_late_run_returns_has_no_fault_and_from_some_number_on_there_is_none(self):
        for case in self.all_cases:
            claims = self.claims(case)
            answer = when_sure(case.listener, case.sender, claims)
            for many in (0, 1, 2, 3, 11, 200):
                found = late_run(case.listener, case.sender, claims, many)
                self.assertEqual(found is None, answer[0] == "from" and many >= answer[1])
                if found is not None:
                    self.assertIsNone(late_fault(case.listener, case.sender, claims, many, found))
                else:
                    for _ in range(3):
                        thing = self.drawn_late_run(case, many)
                        self.assertIsNotNone(late_fault(case.listener, case.sender, claims, many, thing))


if __name__ == "__main__":
    unittest.main()
