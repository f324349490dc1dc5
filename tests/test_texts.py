"""Texts: the examples, the edges, the errors, and drawn texts beside patterns of their lines."""

import itertools
import random
import re
import unittest

from drawing import drawn_parts, drawn_ways
from latecomers.errors import NoText
from latecomers.listeners import Listener
from latecomers.scripts import Script, compiled
from latecomers.senders import Sender
from latecomers.texts import listener_text, read_listener, read_sender, sender_text
from samples import adder, anything, check_calls, check_raises, odd_things, turns

ADDER = "listener\nburdens 1 1\ncontrols 1\ncells 1\nrule 0 0 0\nrow 0 0 1\nrule 0 1 0\nrow 0 1 1\nshow 0 0 1"
TURNS = "sender\nstates 2\nway 0 1 1\nway 1 0 0"
WIDE = """listener
burdens 0 2
controls 2
cells 2
rule 0 0 1
row -9 0 9
row 1 2 -3
rule 0 1 0
row 0 0 0 0 0
row -1 -1 -1 -1 -1
rule 1 0 0
row 0 1 0
row 0 0 1
rule 1 1 1
row 9 9 9 9 9
row 4 -5 6 -7 8
show 0 1 2 3
show 0 -1 -2 -3
show 1 0 0 0"""

# Other ways to write 1, and what may stand around it in vain.
NO_NUMBERS = ["", "+1", "01", "001", "-01", "-0", "+0", "00", "1.0", "1e0", "0x1", "1_0", "0_1", "_1", "1_", "--1", "- 1", "-", "+", "\uff11",
              "\u0661", "\u00b9", "\u2160", "one", "True", "None", "1\u200b", "\u20281", "1\x00", "1\r", "\t1", "1\t", "1\x0b", "1\x0c",
              "1\x1c", "1\x85", "1\xa0", "\u22121", "10", "-10", "11", "99", "9" * 5000, "-" + "1" * 5000, "0" * 5000 + "1", "(1)", "1,"]
LINE_ENDS = ["\r", "\r\n", "\x0b", "\x0c", "\x1c", "\x1d", "\x1e", "\x85", "\u2028", "\u2029", "\n\n", "\n\r", " \n", "\n ", "\n\t", "\t", " ", ""]


def wide():
    rules = [[(1, [[-9, 0, 9], [1, 2, -3]]), (0, [[0, 0, 0, 0, 0], [-1, -1, -1, -1, -1]])],
             [(0, [[0, 1, 0], [0, 0, 1]]), (1, [[9, 9, 9, 9, 9], [4, -5, 6, -7, 8]])]]
    return Listener([0, 2], rules, [[[1, 2, 3], [-1, -2, -3]], [[0, 0, 0]]])


def listener_patterns(lines):
    """Return patterns of all lines of a listener's text but the shows, as far as the first four lines are good."""
    patterns = ["listener", "burdens( [0-2]){1,3}", "controls [1-3]", "cells [1-3]"]
    if len(lines) < 4 or not all(re.fullmatch(pattern, line) for pattern, line in zip(patterns, lines)):
        return patterns, None
    burdens = [int(word) for word in lines[1].split()[1:]]
    controls, cells = int(lines[2][-1]), int(lines[3][-1])
    for control, (kind, burden) in itertools.product(range(controls), enumerate(burdens)):
        patterns.append(f"rule {control} {kind} [0-{controls - 1}]")
        patterns += [f"row( (-[1-9]|[0-9])){{{1 + cells + burden}}}"] * cells
    return patterns, (controls, cells)


def listener_line(text):
    """Return the line at which the text is refused, or None if it is the text of a listener."""
    lines = text.split("\n")
    patterns, shape = listener_patterns(lines)
    shown = []
    for at, line in enumerate(lines):
        if at < len(patterns):
            if not re.fullmatch(patterns[at], line):
                return at
            continue
        controls, cells = shape
        found = re.fullmatch(f"show ([0-{controls - 1}])( (-[1-9]|[0-9])){{{1 + cells}}}", line)
        if not found:
            return at
        shown.append(found[1])
        if shown != sorted(shown) or shown.count(found[1]) > 2:
            return at
    return len(lines) if len(lines) < len(patterns) else None


def all_senders():
    """Yield the ways of every sender that there is."""
    for states in (1, 2):
        ways = list(itertools.product(range(3), range(states)))
        some = [list(chosen) for many in range(1, len(ways) + 1) for chosen in itertools.combinations(ways, many)]
        for chosen in itertools.product(some, repeat=states):
            yield [list(of_state) for of_state in chosen]


def slow_sender_text(ways):
    lines = ["sender", f"states {len(ways)}"]
    lines += [f"way {state} {kind} {behind}" for state, of_state in enumerate(ways) for kind, behind in of_state]
    return "\n".join(lines)


class SenderTexts:
    """All texts of senders and what they begin with."""

    def __init__(self):
        self.texts, self.beginnings = {}, set()
        for ways in all_senders():
            text = slow_sender_text(ways)
            self.texts[text] = ways
            lines = tuple(text.split("\n"))
            self.beginnings.update(lines[:many] for many in range(len(lines) + 1))

    def line(self, text):
        """Return the line at which the text is refused, or None if it is the text of a sender."""
        if text in self.texts:
            return None
        lines = tuple(text.split("\n"))
        for at in range(len(lines)):
            if lines[:at + 1] not in self.beginnings:
                return at
        return len(lines)


class ListenerTextTest(unittest.TestCase):

    def test_texts(self):
        self.assertEqual(listener_text(adder()), ADDER)
        self.assertEqual(listener_text(wide()), WIDE)
        self.assertEqual(listener_text(Listener([0], [[(0, [[0, 0]])]], [[]])),
                         "listener\nburdens 0\ncontrols 1\ncells 1\nrule 0 0 0\nrow 0 0")
        script = Script([1], 2, [[[("swap", 0, 1), ("add", 1, [0, 0, 0, 1])]]], [[]])
        self.assertEqual(listener_text(compiled(script)), "listener\nburdens 1\ncontrols 1\ncells 2\nrule 0 0 0\nrow 0 0 1 0\nrow 0 1 0 1")

    def test_reading(self):
        self.assertTrue(read_listener(ADDER) == adder())
        self.assertTrue(read_listener(WIDE) == wide())
        self.assertTrue(read_listener(listener_text(wide())) == wide())
        self.assertEqual(read_listener(ADDER).hear_all((0, (5,)), [(1, (2,)), (1, (3,))]), (0, (10,)))

    def test_the_greatest_text(self):
        rules = [[(2, [[-9] * 6] * 3)] * 3] * 3
        listener = Listener([2, 2, 2], rules, [[[-9] * 4] * 2] * 3)
        text = listener_text(listener)
        self.assertEqual(len(text.split("\n")), 4 + 9 * 4 + 6)
        self.assertTrue(read_listener(text) == listener)

    def refused(self, text, line):
        check_raises(self, NoText, {"line": line}, read_listener, text)
        if isinstance(text, str):
            self.assertEqual(listener_line(text), line)

    def test_what_is_no_string(self):
        for thing in [item for item in odd_things() if not isinstance(item, str)] + [b"listener", ADDER.encode(), [ADDER], ADDER.split("\n")]:
            with self.subTest(thing=thing):
                check_raises(self, NoText, {"line": -1}, read_listener, thing)
                check_raises(self, NoText, {"line": -1}, read_sender, thing)

    def test_the_string_ends_too_early(self):
        for text, lines in ((ADDER, 8), (WIDE, 16)):
            parts = text.split("\n")
            for many in range(1, lines):
                self.refused("\n".join(parts[:many]), many)
            for many in range(lines, len(parts) + 1):
                self.assertEqual(listener_text(read_listener("\n".join(parts[:many]))), "\n".join(parts[:many]))

    def test_empty_lines(self):
        self.refused("", 0)
        self.refused("\n", 0)
        self.refused("\n" + ADDER, 0)
        self.refused(ADDER + "\n", 9)
        self.refused(ADDER + "\n\n\n", 9)
        self.refused("listener\n", 1)
        for at in range(1, 9):
            parts = ADDER.split("\n")
            parts.insert(at, "")
            self.refused("\n".join(parts), at)

    def test_every_line_left_out_repeated_and_exchanged(self):
        for text in (ADDER, WIDE):
            parts = text.split("\n")
            for at in range(len(parts)):
                for changed in (parts[:at] + parts[at + 1:], parts[:at + 1] + parts[at:], parts[:at] + parts[at:][::-1]):
                    self.check_beside_patterns("\n".join(changed))
                for other in range(at):
                    changed = list(parts)
                    changed[at], changed[other] = parts[other], parts[at]
                    self.check_beside_patterns("\n".join(changed))

    def check_beside_patterns(self, text):
        line = listener_line(text)
        if line is None:
            self.assertEqual(listener_text(read_listener(text)), text)
        else:
            check_raises(self, NoText, {"line": line}, read_listener, text)

    def test_every_word_in_another_way(self):
        compared = 0
        for text in (ADDER, WIDE):
            parts = text.split("\n")
            for at, line in enumerate(parts):
                words = line.split(" ")
                for place in range(len(words)):
                    for other in NO_NUMBERS if place else ["", "Listener", "rule", "show", "row", "way", "sender", words[0] + "s", words[0][1:]]:
                        if other != words[place]:
                            changed = " ".join(words[:place] + [other] + words[place + 1:])
                            self.check_beside_patterns("\n".join(parts[:at] + [changed] + parts[at + 1:]))
                            compared += 1
                for changed in (line + " ", " " + line, line.replace(" ", "  ", 1), line.replace(" ", "\t", 1), line + " 0", line + "0",
                                line + "\r", "\r" + line, line.upper(), line + "\x00", line.rpartition(" ")[0], "\ufeff" + line):
                    if changed != line:
                        self.check_beside_patterns("\n".join(parts[:at] + [changed] + parts[at + 1:]))
        self.assertGreater(compared, 3000)

    def test_line_ends(self):
        for end in LINE_ENDS:
            with self.subTest(end=end):
                self.check_beside_patterns(ADDER.replace("\n", end))
                self.check_beside_patterns(ADDER + end)
                self.check_beside_patterns(end + ADDER)
                for at in (8, 20, 31):
                    start = ADDER.index("\n", at)
                    self.check_beside_patterns(ADDER[:start] + end + ADDER[start + 1:])

    def test_numbers_out_of_range(self):
        for old, new, line in [("burdens 1 1", "burdens 1 3", 1), ("burdens 1 1", "burdens 1 -1", 1), ("burdens 1 1", "burdens", 1),
                               ("burdens 1 1", "burdens 1 1 1 1", 1), ("burdens 1 1", "burdens 0 0 0 0", 1), ("controls 1", "controls 0", 2),
                               ("controls 1", "controls 4", 2), ("controls 1", "controls", 2), ("controls 1", "controls 1 1", 2),
                               ("cells 1", "cells 0", 3), ("cells 1", "cells 4", 3), ("cells 1", "cells 9", 3), ("rule 0 0 0", "rule 0 0 1", 4),
                               ("rule 0 0 0", "rule 0 0 -1", 4), ("rule 0 0 0", "rule 0 1 0", 4), ("rule 0 0 0", "rule 1 0 0", 4),
                               ("rule 0 0 0", "rule 0 0", 4), ("rule 0 0 0", "rule 0 0 0 0", 4), ("row 0 0 1", "row 0 0", 5),
                               ("row 0 0 1", "row 0 0 1 0", 5), ("row 0 0 1", "row", 5), ("show 0 0 1", "show 1 0 1", 8),
                               ("show 0 0 1", "show 0 0", 8), ("show 0 0 1", "show 0 0 1 0", 8), ("show 0 0 1", "show", 8),
                               ("show 0 0 1", "show -1 0 1", 8), ("controls 1", "controls 2", 8), ("cells 1", "cells 2", 5),
                               ("burdens 1 1", "burdens 1", 6), ("burdens 1 1", "burdens 1 1 0", 8), ("burdens 1 1", "burdens 0 1", 5)]:
            with self.subTest(new=new):
                self.refused(ADDER.replace(old, new), line)

    def test_shows(self):
        base = WIDE.partition("\nshow")[0]
        zero, one = "\nshow 0 0 0 0", "\nshow 1 0 0 0"
        for shows in ["", zero, zero * 2, one, one * 2, zero + one, zero * 2 + one * 2]:
            self.assertEqual(listener_text(read_listener(base + shows)), base + shows)
        for shows, line in [(zero * 3, 18), (one * 3, 18), (one + zero, 17), (zero + one + zero, 18), (zero * 2 + one * 3, 20),
                            ("\nshow 2 0 0 0", 16), (zero * 3 + one, 18), (one + "\nshow", 17)]:
            self.refused(base + shows, line)

    def test_what_follows_the_first_bad_line_does_not_matter(self):
        parts = WIDE.split("\n")
        for at in range(len(parts)):
            for rest in ([], ["\u0661"] * 50, parts, [""]):
                self.refused("\n".join(parts[:at] + ["bad"] + rest), at)

    def test_long_strings(self):
        for text in ("9" * 100000, "\n" * 100000, " " * 100000, "listener\n" + "burdens " + "1 " * 40000, ADDER + "\n" * 90000,
                     "\u0661" * 100000, "\udc80" * 1000, "listener " * 10000, ADDER + " " + "-" * 90000, ADDER + "\nshow 0 0 " + "9" * 90000,
                     "\U0001f600\n" * 9000):
            self.check_beside_patterns(text)
            check_raises(self, NoText, {"line": 0}, read_sender, text)
            check_raises(self, NoText, {"line": 1}, read_sender, "sender\n" + text)


class SenderTextTest(unittest.TestCase):

    @classmethod
    def setUpClass(cls):
        cls.known = SenderTexts()

    def test_texts(self):
        self.assertEqual(sender_text(turns()), TURNS)
        self.assertEqual(sender_text(anything()), "sender\nstates 1\nway 0 0 0\nway 0 1 0")

    def ways_of(self, sender):
        return [sender.ways(state) for state in range(sender.state_count())]

    def test_examples(self):
        self.assertEqual(self.ways_of(read_sender(TURNS)), [[(1, 1)], [(0, 0)]])
        check_raises(self, NoText, {"line": 2}, read_sender, "sender\nstates 1")

    def test_all_senders(self):
        self.assertEqual(len(self.known.texts), 7 + 63 * 63)
        for text, ways in self.known.texts.items():
            self.assertEqual(sender_text(Sender(ways)), text)
            self.assertEqual(self.ways_of(read_sender(text)), ways)

    def check_beside_all_texts(self, text):
        line = self.known.line(text)
        if line is None:
            self.assertEqual(sender_text(read_sender(text)), text)
        else:
            check_raises(self, NoText, {"line": line}, read_sender, text)

    def test_some_lines(self):
        for text, line in [("", 0), ("\n", 0), ("sender", 1), ("sender\n", 1), ("sender\nstates 0", 1), ("sender\nstates 3", 1),
                           ("sender\nstates", 1), ("sender\nstates 1 1", 1), ("sender\nstates 1\n", 2), ("sender\nstates 2\nway 1 0 0", 2),
                           ("sender\nstates 2\nway 0 0 0", 3), ("sender\nstates 1\nway 0 0 0\n", 3), ("sender\nstates 1\nway 0 0 1", 2),
                           ("sender\nstates 1\nway 0 3 0", 2), ("sender\nstates 1\nway 0 -1 0", 2), ("sender\nstates 1\nway 1 0 0", 2),
                           ("sender\nstates 1\nway 0 1 0\nway 0 0 0", 3), ("sender\nstates 1\nway 0 1 0\nway 0 1 0", 3),
                           ("sender\nstates 2\nway 0 0 1\nway 0 0 0", 3), ("sender\nstates 2\nway 0 0 0\nway 1 0 0\nway 0 1 0", 4),
                           ("sender\nstates 2\nway 0 0 0\nway 2 0 0", 3), ("sender\nstates 1\nway 0 0", 2), ("sender\nstates 1\nway", 2),
                           ("sender\nstates 1\nway 0 0 0 0", 2), ("listener\nstates 1", 0), (ADDER, 0), ("sender\n\nstates 1", 1),
                           ("sender\nstates 2\nway 0 0 0\nway 1 0 0\nway 1 0 0", 4), ("sender\r\nstates 1\r\nway 0 0 0", 0)]:
            with self.subTest(text=text):
                self.assertEqual(self.known.line(text), line)
                check_raises(self, NoText, {"line": line}, read_sender, text)
        check_raises(self, NoText, {"line": 0}, read_listener, TURNS)

    def test_every_line_left_out_repeated_and_exchanged(self):
        for text in (TURNS, "sender\nstates 2\nway 0 0 0\nway 0 0 1\nway 0 2 1\nway 1 0 0\nway 1 1 1\nway 1 2 0",
                     "sender\nstates 1\nway 0 0 0\nway 0 1 0\nway 0 2 0"):
            parts = text.split("\n")
            for at in range(len(parts)):
                for changed in (parts[:at], parts[:at] + parts[at + 1:], parts[:at + 1] + parts[at:], parts[:at] + parts[at:][::-1],
                                parts[:at] + [""] + parts[at:]):
                    self.check_beside_all_texts("\n".join(changed))
                for other in range(at):
                    changed = list(parts)
                    changed[at], changed[other] = parts[other], parts[at]
                    self.check_beside_all_texts("\n".join(changed))

    def test_every_word_in_another_way(self):
        parts = TURNS.split("\n")
        for at, line in enumerate(parts):
            words = line.split(" ")
            for place in range(len(words)):
                for other in (NO_NUMBERS + ["0", "1", "2", "3", "-1"]) if place else ["", "Sender", "listener", "ways", "wa", "WAY", "state"]:
                    changed = " ".join(words[:place] + [other] + words[place + 1:])
                    self.check_beside_all_texts("\n".join(parts[:at] + [changed] + parts[at + 1:]))
            for changed in (line + " ", " " + line, line.replace(" ", "  ", 1), line.replace(" ", "\t", 1), line + " 0", line + "0",
                            line + "\r", "\r" + line, line.upper(), line + "\x00", line.rpartition(" ")[0]):
                self.check_beside_all_texts("\n".join(parts[:at] + [changed] + parts[at + 1:]))

    def test_line_ends(self):
        for end in LINE_ENDS:
            with self.subTest(end=end):
                for text in (TURNS.replace("\n", end), TURNS + end, end + TURNS, TURNS.replace("\n", end, 1)):
                    self.check_beside_all_texts(text)


class DrawnTextsTest(unittest.TestCase):

    def setUp(self):
        self.draw = random.Random(370)
        self.known = SenderTexts()

    def changed(self, text):
        """Return the text changed at a few drawn places."""
        for _ in range(self.draw.choice([1, 1, 1, 2])):
            at = self.draw.randint(0, len(text))
            new = self.draw.choice([*"0123456789- \n\t\r+_", "\n\n", "00", "-9", " 1", "show", "\u0662", "\u2028", "\x85", "row 0 0\n"])
            choice = self.draw.randrange(5)
            if choice == 0:
                text = text[:at] + new + text[at:]
            elif choice == 1:
                text = text[:at] + text[at + 1:]
            elif choice == 2:
                text = text[:at] + new + text[at + 1:]
            else:
                lines = text.split("\n")
                first, second = self.draw.randrange(len(lines)), self.draw.randrange(len(lines))
                if choice == 3:
                    lines[first], lines[second] = lines[second], lines[first]
                else:
                    lines[first:first + self.draw.randint(0, 1)] = [lines[second]] * self.draw.randint(0, 2)
                text = "\n".join(lines)
        return text

    def drawn_listener_text(self):
        return listener_text(Listener(*drawn_parts(self.draw)))

    def test_reading_gives_the_listener_whose_text_it_is(self):
        for _ in range(200):
            listener = Listener(*drawn_parts(self.draw))
            text = listener_text(listener)
            self.assertIsNone(listener_line(text))
            self.assertTrue(read_listener(text) == listener)

    def test_a_changed_text_of_a_listener_is_refused_or_another_text(self):
        refused = taken = 0
        for _ in range(2500):
            text = self.changed(self.drawn_listener_text())
            line = listener_line(text)
            if line is None:
                self.assertEqual(listener_text(read_listener(text)), text)
                taken += 1
            else:
                check_raises(self, NoText, {"line": line}, read_listener, text)
                refused += 1
        self.assertTrue(refused > 1000 and taken > 200, (refused, taken))

    def test_a_changed_text_of_a_sender_is_refused_or_another_text(self):
        refused = taken = 0
        for _ in range(4000):
            text = self.changed(slow_sender_text(drawn_ways(self.draw, 3)))
            line = self.known.line(text)
            if line is None:
                self.assertEqual(sender_text(read_sender(text)), text)
                taken += 1
            else:
                check_raises(self, NoText, {"line": line}, read_sender, text)
                refused += 1
        self.assertTrue(refused > 1000 and taken > 200, (refused, taken))


class TextsLeaveAloneTest(unittest.TestCase):

    def test_arguments_and_answers(self):
        check_calls(self, [(listener_text, wide()), (sender_text, turns())])
        listener, sender = wide(), turns()
        listener_text(listener)
        sender_text(sender)
        self.assertTrue(listener == wide())
        self.assertEqual([sender.ways(state) for state in range(2)], [[(1, 1)], [(0, 0)]])
        self.assertIsNot(read_listener(WIDE), read_listener(WIDE))


if __name__ == "__main__":
    unittest.main()
