"""Listeners on drawn inputs: many messages and words beside one message after another."""

import random
import unittest

from drawing import drawn_message, drawn_parts, drawn_stand, heard
from latecomers.listeners import Listener


class DrawnListenersTest(unittest.TestCase):

    def setUp(self):
        self.draw = random.Random(40)

    def cases(self, many):
        for _ in range(many):
            parts = drawn_parts(self.draw)
            yield parts, Listener(*parts), drawn_stand(self.draw, parts)

    def test_hear_all_is_one_message_after_another(self):
        for parts, listener, stand in self.cases(300):
            kinds = [self.draw.randrange(len(parts[0])) for _ in range(self.draw.choice([0, 1, 3, 60]))]
            messages = [drawn_message(self.draw, parts[0], kind) for kind in kinds]
            step = expected = stand
            for message in messages:
                step = listener.hear(step, message)
                expected = heard(parts, expected, message)
                self.assertEqual(step, expected)
            self.assertEqual(listener.hear_all(stand, messages), expected)

    def test_word_map_is_one_message_after_another(self):
        for parts, listener, stand in self.cases(400):
            word = [self.draw.randrange(len(parts[0])) for _ in range(self.draw.randint(0, 12))]
            behind, rows = listener.word_map(stand[0], word)
            carried = sum(parts[0][kind] for kind in word)
            self.assertEqual([len(row) for row in rows], [1 + len(stand[1]) + carried] * len(stand[1]))
            for _ in range(3):
                stand = (stand[0], drawn_stand(self.draw, parts)[1])
                messages = [drawn_message(self.draw, parts[0], kind) for kind in word]
                vector = [1, *stand[1], *[number for _, numbers in messages for number in numbers]]
                expected = listener.hear_all(stand, messages)
                values = tuple(sum(x * y for x, y in zip(row, vector, strict=True)) for row in rows)
                self.assertEqual((behind, values), expected)

    def test_seen_rules_counts_and_equality(self):
        before = None
        for parts, listener, stand in self.cases(300):
            burdens, rules, shows = parts
            seen = tuple(show[0] + sum(x * y for x, y in zip(show[1:], stand[1])) for show in shows[stand[0]])
            self.assertEqual(listener.seen(stand), seen)
            for control in range(len(rules)):
                for kind in range(len(burdens)):
                    self.assertEqual(listener[control, kind], rules[control][kind])
            self.assertEqual(listener.kind_count(), len(burdens))
            self.assertEqual(listener.control_count(), len(rules))
            self.assertEqual(listener.cell_count(), len(stand[1]))
            self.assertTrue(listener == Listener(*parts))
            if before is not None:
                self.assertIs(listener == before[1], parts == before[0])
            before = parts, listener


if __name__ == "__main__":
    unittest.main()
