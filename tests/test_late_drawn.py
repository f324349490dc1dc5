"""Latecomers on drawn inputs, beside slow computations and drawn common messages."""

import random
import unittest

import reference
from drawing import drawn_forms, drawn_let_word, drawn_parts, drawn_ways, heard, plain_parts, small_message
from independent import canonical, vanishing
from latecomers.late import after, entries, last_claims, late_run, level, sure_cells, when_sure
from latecomers.listeners import Listener
from latecomers.senders import Sender


class Case:
    """A drawn listener and sender, with the tables behind 0, 1, .. messages from the slow computation."""

    def __init__(self, draw):
        self.draw = draw
        self.parts = draw.choice([plain_parts] * 7 + [drawn_parts])(draw)
        self.ways = drawn_ways(draw, len(self.parts[0]))
        self.listener, self.sender = Listener(*self.parts), Sender(self.ways)
        self.world = reference.pairs_world(self.ways, self.parts)
        self.tables = reference.tables_of(self.ways, self.parts)
        self.count = len(self.parts[1][0][0][1])

    def table(self, many):
        return self.tables[min(many, len(self.tables) - 1)]

    def claims(self):
        """Return joint claims: drawn ones, or some that hold behind a drawn number of messages."""
        if self.draw.random() < 0.3:
            return {key: drawn_forms(self.draw, self.world.width, 7) for key in self.world.keys()}
        table, claims = self.table(self.draw.randint(1, len(self.tables))), {}
        for key in self.world.keys():
            forms = vanishing(self.world.width, table[key]) if key in table else [[1] + [0] * (self.world.width - 1)]
            claims[key] = self.draw.sample(forms, self.draw.randint(0, len(forms)))
        return claims

    def level_claims(self):
        cells = [cell for cell in range(self.count) if self.draw.random() < 0.6]
        return level(self.listener, self.sender, cells, controls=self.draw.random() < 0.5)

    def least(self, claims):
        """Return from how many messages on the claims hold, or None."""
        for many, table in enumerate(self.tables):
            if reference.all_hold(claims, table):
                return many
        return None

    def messages(self, state, length):
        word, _ = drawn_let_word(self.draw, self.ways, state, length)
        return [small_message(self.draw, self.parts[0], kind) for kind in word]


class DrawnLateTest(unittest.TestCase):

    @classmethod
    def setUpClass(cls):
        draw = random.Random(220)
        cls.draw = draw
        cls.all_cases = [Case(draw) for _ in range(150)]

    def test_entries_and_after(self):
        deepest = 0
        for case in self.all_cases:
            self.assertEqual(entries(case.listener, case.sender), reference.listed(case.tables[0]))
            for many in [*range(len(case.tables) + 1), 200]:
                self.assertEqual(after(case.listener, case.sender, many), reference.listed(case.table(many)))
            deepest = max(deepest, len(case.tables))
        self.assertGreater(deepest, 4)

    def test_tables_are_tables_and_lie_in_those_before(self):
        for case in self.all_cases:
            before = None
            for many in range(len(case.tables) + 1):
                table = after(case.listener, case.sender, many)
                self.assertTrue(case.world.is_table(table))
                table = reference.as_dict(table)
                if before is not None:
                    for key, basis in table.items():
                        self.assertTrue(reference.lies_in(basis, before[key]))
                before = table

    def drawn_pair(self, case, many):
        """Return the states and the two stands behind so many common messages after a drawn entry."""
        stand = case.listener.start()
        prefix = case.messages(0, self.draw.choice([0, 1, 2, 3, 6]))
        for message in prefix:
            stand = heard(case.parts, stand, message)
        late = (self.draw.randrange(len(case.parts[1])), tuple(self.draw.randint(-9, 9) for _ in range(case.count)))
        state = self.draw.choice(reference.ends(case.ways, 0, prefix))
        common = case.messages(state, many)
        for message in common:
            stand, late = heard(case.parts, stand, message), heard(case.parts, late, message)
        return reference.ends(case.ways, state, common), stand, late

    def test_pairs_behind_common_messages_lie_in_the_tables(self):
        for case in self.all_cases:
            for many in (0, 1, 2, 3, 7):
                table = reference.as_dict(after(case.listener, case.sender, many))
                for _ in range(3):
                    states, stand, late = self.drawn_pair(case, many)
                    for state in states:
                        basis = table[state, stand[0], late[0]]
                        self.assertTrue(reference.lies_in([[1, *stand[1], *late[1]]], basis))

    def test_the_tables_are_spanned_by_such_pairs(self):
        spanned = total = 0
        for case in self.all_cases[:25]:
            for many in (0, 1, 2):
                found = {}
                for _ in range(150):
                    states, stand, late = self.drawn_pair(case, many)
                    for state in states:
                        vectors = found.setdefault((state, stand[0], late[0]), [])
                        vectors.append([1, *stand[1], *late[1]])
                        found[state, stand[0], late[0]] = canonical(vectors)
                total += 1
                spanned += found == case.table(many)
        self.assertGreater(spanned, total * 2 // 3)

    def test_when_sure_and_late_run(self):
        words = {"from": 0, "never": 0}
        for case in self.all_cases:
            for claims in (case.claims(), case.claims(), case.level_claims()):
                least = case.least(claims)
                answer = when_sure(case.listener, case.sender, claims)
                if least is None:
                    self.assertEqual(answer, ("never", reference.listed(case.tables[-1])))
                    self.assertEqual(answer[1], after(case.listener, case.sender, 200))
                else:
                    tables = [after(case.listener, case.sender, many) for many in range(least + 1)]
                    self.assertEqual(answer, ("from", least, tables))
                words[answer[0]] += 1
                for many in {0, 1, 2, 5, 30, (least or 7) - 1, least or 3}:
                    self.check_late_run(case, claims, many, least)
        self.assertGreater(min(words.values()), 50, words)

    def check_late_run(self, case, claims, many, least):
        found = late_run(case.listener, case.sender, claims, many)
        if least is not None and many >= least:
            self.assertIsNone(found)
            for _ in range(2):
                self.check_that_they_hold(case, claims, many)
        else:
            self.assertIsNone(reference.late_fault(case.ways, case.parts, claims, many, found))

    def check_that_they_hold(self, case, claims, many):
        states, stand, late = self.drawn_pair(case, many)
        for state in states:
            for form in claims[state, stand[0], late[0]]:
                self.assertTrue(reference.vanishes(form, [[1, *stand[1], *late[1]]]))

    def test_the_longest_late_runs(self):
        for case in self.all_cases[:20]:
            claims = {key: [[1, *[0] * (case.world.width - 1)]] for key in case.world.keys()}
            found = late_run(case.listener, case.sender, claims, 200)
            self.assertIsNone(reference.late_fault(case.ways, case.parts, claims, 200, found))

    def test_sure_cells_and_level(self):
        found = {}
        for case in self.all_cases:
            numbers = sure_cells(case.listener, case.sender)
            self.assertEqual(len(numbers), case.count)
            for cell, number in enumerate(numbers):
                claims = self.forms_of(case, [cell])
                self.assertEqual(level(case.listener, case.sender, [cell], controls=False), claims)
                self.assertEqual(number, case.least(claims))
                answer = when_sure(case.listener, case.sender, claims)
                self.assertEqual(number, answer[1] if answer[0] == "from" else None)
                found[number] = found.get(number, 0) + 1
            whole = when_sure(case.listener, case.sender,
                              level(case.listener, case.sender, list(range(case.count)), controls=False))
            if None in numbers:
                self.assertEqual(whole[0], "never")
            else:
                self.assertEqual(whole[:2], ("from", max(numbers)))
        self.assertTrue({None, 1, 2, 3} <= set(found), found)

    def forms_of(self, case, cells):
        claims = {}
        for key in case.world.keys():
            claims[key] = []
            for cell in cells:
                form = [0] * case.world.width
                form[1 + cell], form[1 + case.count + cell] = 1, -1
                claims[key].append(form)
        return claims

    def test_last_claims(self):
        for case in self.all_cases:
            claims = last_claims(case.listener, case.sender)
            last = case.tables[-1]
            self.assertEqual(claims, {key: vanishing(case.world.width, last.get(key, [])) for key in case.world.keys()})
            if all(len(forms) <= 7 for forms in claims.values()):
                word, least, tables = when_sure(case.listener, case.sender, claims)
                self.assertEqual((word, tables[-1]), ("from", reference.listed(last)))
                self.assertEqual(least, len(case.tables) - 2)
                for many in (least, least + 1, 200):
                    self.assertIsNone(late_run(case.listener, case.sender, claims, many))
                if least:
                    self.assertIsNotNone(late_run(case.listener, case.sender, claims, least - 1))


if __name__ == "__main__":
    unittest.main()
