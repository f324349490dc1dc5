"""Scripts: the example, the edges, the errors, what calls leave alone, and drawn scripts."""

import copy
import random
import unittest

from drawing import drawn_message, drawn_script_parts
from independent import value
from latecomers.errors import NoMessage, NoScript, NoStand, TooGreat
from latecomers.listeners import Listener
from latecomers.scripts import Script, compiled, script_hear

NO_INTEGERS = [True, False, None, "0", 0.0, b"0", [0], (0,), {}]
NO_LISTS = [None, True, 0, 1, "ab", "", b"a", (), {}, ([],)]

SWAP = ("swap", 0, 1)


def one_block(block, cells=2, burdens=(1,)):
    """Return a script of one control whose blocks are all this one."""
    return Script(list(burdens), cells, [[block for _ in burdens]], [[]])


def wide_parts():
    """Three kinds with burdens 0, 1 and 2, three controls, two cells, shows 0, 1 and 2."""
    blocks = [
        [[], [("go", 1), ("set", 0, [0, 0, 0, 1])], [("add", 1, [1, 2, 3, 4, 5])]],
        [[("go", 2), ("go", 0), ("go", 1)], [("swap", 0, 1)] * 5 + [("go", 0)], [("swap", 1, 1)]],
        [[("set", 0, [4, 0, 0]), ("add", 0, [0, 1, 0])], [("add", 0, [0, 0, 0, -1])], [("go", 2)]],
    ]
    return [0, 1, 2], 2, blocks, [[], [[1, 2, 3]], [[0, 1, 0], [-9, 9, 0]]]


def executed(parts, stand, message):
    """Do what the document says of a block, one statement after another."""
    burdens, many, blocks, shows = parts
    control, cells = stand
    kind, numbers = message
    cells, behind = list(cells), control
    for word, *rest in blocks[control][kind]:
        if word == "go":
            behind = rest[0]
        elif word == "swap":
            cells[rest[0]], cells[rest[1]] = cells[rest[1]], cells[rest[0]]
        else:
            found = value(rest[1], [1, *cells, *numbers])
            cells[rest[0]] = found if word == "set" else cells[rest[0]] + found
    return behind, tuple(cells)


class ScriptHearTest(unittest.TestCase):

    def test_set(self):
        script = one_block([("set", 0, [3, 2, -1, 9])])
        self.assertEqual(script_hear(script, (0, (10, 100)), (0, (1000,))), (0, (3 + 20 - 100 + 9000, 100)))

    def test_add(self):
        script = one_block([("add", 1, [3, 2, -1, 9])])
        self.assertEqual(script_hear(script, (0, (10, 100)), (0, (1000,))), (0, (10, 100 + 3 + 20 - 100 + 9000)))

    def test_swap(self):
        self.assertEqual(script_hear(one_block([SWAP]), (0, (10, 100)), (0, (7,))), (0, (100, 10)))
        three = one_block([("swap", 2, 0)], cells=3)
        self.assertEqual(script_hear(three, (0, (1, 2, 3)), (0, (7,))), (0, (3, 2, 1)))

    def test_a_swap_of_a_cell_with_itself_changes_nothing(self):
        script = one_block([("swap", 0, 0), ("swap", 1, 1)])
        self.assertEqual(script_hear(script, (0, (10, 100)), (0, (7,))), (0, (10, 100)))
        self.assertEqual(compiled(script)[0, 0], (0, [[0, 1, 0, 0], [0, 0, 1, 0]]))

    def test_go(self):
        script = Script(*wide_parts())
        self.assertEqual(script_hear(script, (0, (1, 2)), (1, (7,))), (1, (7, 2)))
        self.assertEqual(script_hear(script, (2, (1, 2)), (2, (7, 8))), (2, (1, 2)))

    def test_of_several_go_the_last_counts(self):
        script = Script(*wide_parts())
        self.assertEqual(script_hear(script, (1, (3, 4)), (0, ())), (1, (3, 4)))
        others = Script([0], 1, [[[("go", 1), ("go", 2)]], [[("go", 2), ("go", 0), ("set", 0, [1, 0])]], [[]]], [[]] * 3)
        self.assertEqual(script_hear(others, (0, (5,)), (0, ())), (2, (5,)))
        self.assertEqual(script_hear(others, (1, (5,)), (0, ())), (0, (1,)))
        self.assertEqual([compiled(others)[control, 0][0] for control in range(3)], [2, 0, 2])

    def test_without_go_the_control_stays(self):
        script = Script(*wide_parts())
        for control in range(3):
            kind = (2, 2, 0)[control]
            message = (kind, (0,) * kind)
            self.assertEqual(script_hear(script, (control, (1, 2)), message)[0], control)

    def test_a_block_without_statements_changes_nothing(self):
        self.assertEqual(script_hear(one_block([]), (0, (10, 100)), (0, (7,))), (0, (10, 100)))
        self.assertEqual(compiled(one_block([]))[0, 0], (0, [[0, 1, 0, 0], [0, 0, 1, 0]]))

    def test_six_statements(self):
        block = [("add", 0, [1, 1, 0, 0])] * 6
        self.assertEqual(script_hear(one_block(block), (0, (1, 5)), (0, (7,))), (0, (127, 5)))

    def test_a_statement_works_with_what_those_before_it_left(self):
        exchange = one_block([("set", 0, [0, 0, 1, 0]), ("set", 1, [0, 1, 0, 0])])
        self.assertEqual(script_hear(exchange, (0, (10, 100)), (0, (7,))), (0, (100, 100)))
        script = one_block([("set", 0, [0, 0, 0, 1]), SWAP, ("add", 0, [0, 0, 1, 0]), ("add", 1, [0, 1, 0, 0])])
        self.assertEqual(script_hear(script, (0, (10, 100)), (0, (7,))), (0, (107, 114)))

    def test_the_go_does_not_change_which_block_is_executed(self):
        script = Script([0], 1, [[[("go", 1), ("add", 0, [1, 0])]], [[("add", 0, [5, 0])]]], [[], []])
        self.assertEqual(script_hear(script, (0, (0,)), (0, ())), (1, (1,)))
        self.assertEqual(script_hear(script, (1, (0,)), (0, ())), (1, (5,)))

    def test_great_numbers(self):
        great = 10 ** 60 - 1
        script = one_block([("add", 0, [9, 9, 9, 9])] * 6)
        expected = great
        for _ in range(6):
            expected = expected + 9 + 9 * expected + 18 * great
        self.assertEqual(script_hear(script, (0, (great, great)), (0, (great,))), (0, (expected, great)))


class CompiledTest(unittest.TestCase):

    def test_example(self):
        script = Script([1], 2, [[[("swap", 0, 1), ("add", 1, [0, 0, 0, 1])]]], [[]])
        listener = compiled(script)
        self.assertIsInstance(listener, Listener)
        self.assertEqual(listener[0, 0], (0, [[0, 0, 1, 0], [0, 1, 0, 1]]))

    def test_burdens_and_shows_are_the_same(self):
        listener = compiled(Script(*wide_parts()))
        self.assertEqual((listener.kind_count(), listener.control_count(), listener.cell_count()), (3, 3, 2))
        self.assertEqual(listener.seen((0, (1, 2))), ())
        self.assertEqual(listener.seen((1, (10, 100))), (321,))
        self.assertEqual(listener.seen((2, (10, 100))), (10, 81))
        keep = [[0, 1, 0], [0, 0, 1]]
        rules = [
            [(0, keep), (1, [[0, 0, 0, 1], [0, 0, 1, 0]]), (0, [[0, 1, 0, 0, 0], [1, 2, 4, 4, 5]])],
            [(1, keep), (0, [[0, 0, 1, 0], [0, 1, 0, 0]]), (1, [[0, 1, 0, 0, 0], [0, 0, 1, 0, 0]])],
            [(2, [[8, 0, 0], [0, 0, 1]]), (2, [[0, 1, 0, -1], [0, 0, 1, 0]]), (2, [[0, 1, 0, 0, 0], [0, 0, 1, 0, 0]])]]
        self.assertTrue(listener == Listener([0, 1, 2], rules, wide_parts()[3]))

    def assert_too_great(self, rule, script):
        with self.assertRaises(TooGreat) as caught:
            compiled(script)
        self.assertEqual(caught.exception.rule, rule)
        self.assertIsInstance(caught.exception.rule, tuple)

    def test_nine_is_not_too_great(self):
        rows = [[9, -9, 9, -9], [-9, 9, -9, 9]]
        script = one_block([("set", 0, rows[0])])
        self.assertEqual(compiled(script)[0, 0], (0, [rows[0], [0, 0, 1, 0]]))
        script = one_block([("set", 0, [0, 1, 3, 0]), ("set", 1, [0, 3, 0, 0])])
        self.assertEqual(compiled(script)[0, 0], (0, [[0, 1, 3, 0], [0, 3, 9, 0]]))

    def test_ten_is_too_great_at_each_place_of_a_row(self):
        for at in range(4):
            for sign in (1, -1):
                row = [0] * 4
                row[at] = 5 * sign
                for many in (1, 2):
                    block = [("set", 0, [0, 0, 0, 0])] + [("add", 0, row)] * many
                    if at == 1:
                        block = [("set", 1, [0, sign * 5, 0, 0]), ("add", 1, [0, 0, many - 1, 0])]
                    with self.subTest(at=at, sign=sign, many=many):
                        if many == 1:
                            self.assertIsInstance(compiled(one_block(block)), Listener)
                        else:
                            self.assert_too_great((0, 0), one_block(block))

    def test_what_is_too_great_only_on_the_way_does_not_matter(self):
        block = [("add", 0, [9, 9, 9, 9]), ("add", 0, [9, 9, 0, 0]), ("swap", 0, 1), ("set", 1, [0, 0, 0, 1])]
        self.assertEqual(compiled(one_block(block))[0, 0], (0, [[0, 0, 1, 0], [0, 0, 0, 1]]))
        self.assert_too_great((0, 0), one_block(block[:3]))
        back = [("add", 0, [0, 9, 9, 9]), ("add", 0, [9, 9, 0, 0]), ("set", 0, [0, 0, 1, 0])]
        self.assertEqual(compiled(one_block(back))[0, 0], (0, [[0, 0, 1, 0], [0, 0, 1, 0]]))
        less = [("set", 0, [9, 0, 0, 9]), ("add", 0, [9, 0, 0, 9]), ("add", 0, [-9, 0, 0, -9])]
        self.assertEqual(compiled(one_block(less))[0, 0], (0, [[9, 0, 0, 9], [0, 0, 1, 0]]))

    def test_the_first_such_rule_is_named(self):
        bad, good = [("add", 0, [0, 9])], [("add", 0, [0, 8])]
        for control in range(3):
            for kind in range(3):
                blocks = [[bad if (p, k) >= (control, kind) else good for k in range(3)] for p in range(3)]
                self.assert_too_great((control, kind), Script([0, 0, 0], 1, blocks, [[]] * 3))
        blocks = [[good, good, bad], [bad, good, good]]
        self.assert_too_great((0, 2), Script([0, 0, 0], 1, blocks, [[]] * 2))

    def test_a_script_that_is_too_great_can_still_hear(self):
        script = one_block([("add", 0, [0, 9, 0, 0])] * 6)
        self.assert_too_great((0, 0), script)
        self.assertEqual(script_hear(script, (0, (1, 0)), (0, (0,))), (0, (10 ** 6, 0)))


class ScriptErrorsTest(unittest.TestCase):

    def assert_place(self, place, *parts):
        before = copy.deepcopy(parts)
        with self.assertRaises(NoScript) as caught:
            Script(*parts)
        self.assertEqual(caught.exception.place, place)
        self.assertEqual(parts, before)

    def test_burdens(self):
        _, cells, blocks, shows = wide_parts()
        for bad in [*NO_LISTS, [], [0] * 4, [3], [-1], [0, 3], *[[1, bad] for bad in NO_INTEGERS]]:
            with self.subTest(bad=bad):
                self.assert_place("burdens", bad, cells, blocks, shows)
                self.assert_place("burdens", bad, None, None, None)

    def test_cells(self):
        burdens, _, blocks, shows = wide_parts()
        for bad in [*NO_INTEGERS, 0, 4, -1, 10 ** 60, "2", [2], 2.0]:
            with self.subTest(bad=bad):
                self.assert_place("cells", burdens, bad, blocks, shows)
                self.assert_place("cells", burdens, bad, None, None)

    def test_blocks(self):
        row = [0, 1, 0, 1]
        statements = [
            *NO_LISTS, ["go", 0], ["swap", 0, 1], ["set", 0, row], ("go",), ("go", 0, 0), ("go", 1), ("go", -1), ("go", None),
            *[("go", bad) for bad in NO_INTEGERS], ("swap",), ("swap", 0), ("swap", 0, 1, 0), ("swap", 2, 0), ("swap", 0, 2),
            ("swap", -1, 0), ("swap", 0, -1), *[("swap", bad, 0) for bad in NO_INTEGERS],
            *[("swap", 0, bad) for bad in NO_INTEGERS], ("set", 0), ("set", 0, row, 0), ("set", 2, row), ("set", -1, row),
            *[(word, bad, row) for bad in NO_INTEGERS for word in ("set", "add")],
            *[(word, 0, bad) for bad in [*NO_LISTS, (0, 1, 0, 1), [], [0, 1, 0], [0, 1, 0, 1, 0], [10, 0, 0, 0],
                                         [0, 0, 0, -10], ["0"] * 4] for word in ("set", "add")],
            *[("set", 0, [0, 0, 0, bad]) for bad in NO_INTEGERS], *[("add", 0, [bad, 0, 0, 0]) for bad in NO_INTEGERS],
            ("SET", 0, row), ("sets", 0, row), ("", 0, row), (0, 0, row), (None, 0, row), ([], 0, row), (b"set", 0, row),
            ("swap", 0, row), ("go", row), (row, row, row),
        ]
        for bad in statements:
            with self.subTest(statement=bad):
                self.assert_place("blocks", [1], 2, [[[bad]]], [[]])
                self.assert_place("blocks", [1], 2, [[[("go", 0), bad]]], None)
        for bad in [*NO_LISTS, [[]] * 4, [], [[]], [[[], []]], [None], [([],)], [[None]], [[()]], [["ab"]],
                    [[[("go", 0)] * 7]], [[[]], []], [[[]], None], [[[]], [[]], [[]], [[]]]]:
            with self.subTest(blocks=bad):
                self.assert_place("blocks", [1], 2, bad, [[]])
                self.assert_place("blocks", [1], 2, bad, None)

    def test_rows_follow_the_burden_of_their_kind(self):
        Script([0, 2], 1, [[[("set", 0, [0, 1])], [("set", 0, [0, 1, 2, 3])]]], [[]])
        self.assert_place("blocks", [2, 0], 1, [[[("set", 0, [0, 1])], [("set", 0, [0, 1, 2, 3])]]], [[]])
        self.assert_place("blocks", [0, 2], 2, [[[("set", 0, [0, 1])], [("set", 0, [0, 1, 2, 3])]]], [[]])

    def test_shows(self):
        burdens, cells, blocks, _ = wide_parts()
        for bad in [*NO_LISTS, [], [[]], [[], []], [[]] * 4, [[], [], None], [[], (), []], [[[0, 1, 2]] * 3, [], []],
                    [[], [[0, 1]], []], [[], [[0, 1, 2, 3]], []], [[], [(0, 1, 2)], []], [[], [], [[0, 0, 10]]],
                    *[[[[0, 0, bad]], [], []] for bad in NO_INTEGERS]]:
            with self.subTest(bad=bad):
                self.assert_place("shows", burdens, cells, blocks, bad)

    def test_the_edges_are_accepted(self):
        row = [-9, 9, -9, 9, -9, 9]
        block = [("set", 2, row), ("add", 0, row), ("swap", 2, 2), ("go", 2), ("go", 0), ("swap", 0, 2)]
        Script([2, 2, 2], 3, [[block] * 3] * 3, [[[9, -9, 9, -9]] * 2] * 3)
        Script([0], 1, [[[]]], [[]])

    def test_stands_and_messages(self):
        script = Script(*wide_parts())
        stands = [None, True, 0, "ab", [0, (1, 2)], (0,), (0, (1, 2), 0), (), (0, [1, 2]), (0, (1,)), (0, (1, 2, 3)),
                  (0, None), (3, (1, 2)), (-1, (1, 2)), *[(bad, (1, 2)) for bad in NO_INTEGERS],
                  *[(0, (1, bad)) for bad in NO_INTEGERS]]
        for stand in stands:
            with self.subTest(stand=stand):
                self.assertRaises(NoStand, script_hear, script, stand, (0, ()))
                self.assertRaises(NoStand, script_hear, script, stand, None)
        messages = [None, True, 0, "ab", [1, (2,)], (1,), (1, (2,), 3), (), (1, [2]), (1, ()), (1, (2, 3)), (0, (1,)),
                    (2, (1,)), (1, 2), (1, None), (3, ()), (-1, (1,)), *[(bad, (1,)) for bad in NO_INTEGERS],
                    *[(1, (bad,)) for bad in NO_INTEGERS], [(0, ())]]
        for message in messages:
            with self.subTest(message=message):
                with self.assertRaises(NoMessage) as caught:
                    script_hear(script, (1, (1, 2)), message)
                self.assertEqual(caught.exception.index, 0)


class ScriptLeavesAloneTest(unittest.TestCase):

    def test_creation_changes_nothing_and_copies(self):
        parts = wide_parts()
        script = Script(*parts)
        before = compiled(script)
        self.assertEqual(parts, wide_parts())
        burdens, _, blocks, shows = parts
        burdens[0] = 2
        burdens.append(1)
        for of_control in blocks:
            for block in of_control:
                for statement in block:
                    if isinstance(statement[-1], list):
                        statement[-1][0] = 7
                        statement[-1].append(1)
                block.append(("go", 1))
                block.reverse()
            of_control.pop()
        blocks.append([])
        for rows in shows:
            for row in rows:
                row[0] = 8
            rows.append([])
        shows.clear()
        self.assertTrue(compiled(script) == before)
        self.assertEqual(script_hear(script, (0, (1, 2)), (2, (3, 4))), (0, (1, 2 + 1 + 2 + 6 + 12 + 20)))

    def test_one_row_at_several_places_may_be_handed_in(self):
        row = [1, 0]
        block = [("add", 0, row), ("add", 0, row)]
        script = Script([0, 0], 1, [[block, block]], [[row, row]])
        row[0] = 5
        block.pop()
        self.assertEqual(script_hear(script, (0, (0,)), (1, ())), (0, (2,)))
        self.assertEqual(compiled(script).seen((0, (3,))), (1, 1))

    def test_each_compiled_listener_stands_alone(self):
        script = Script(*wide_parts())
        one = compiled(script)
        rows = one[0, 2][1]
        rows[0][0] = 9
        self.assertTrue(one == compiled(script))

    def test_a_failed_creation_changes_nothing(self):
        script = Script(*wide_parts())
        before = compiled(script)
        for parts in [(None, 1, [], []), ([0], 0, [], []), ([0], 1, [], []), ([0], 1, [[[]]], None)]:
            self.assertRaises(NoScript, script.__init__, *parts)
        self.assertTrue(compiled(script) == before)

    def test_a_failed_compilation_changes_nothing(self):
        script = one_block([("add", 0, [0, 9, 0, 0]), ("go", 0)])
        for _ in range(2):
            self.assertRaises(TooGreat, compiled, script)
            self.assertEqual(script_hear(script, (0, (2, 3)), (0, (4,))), (0, (20, 3)))


class DrawnScriptsTest(unittest.TestCase):

    def setUp(self):
        self.draw = random.Random(140)

    def drawn_hearing(self, parts):
        burdens, cells, blocks, _ = parts
        stand = (self.draw.randrange(len(blocks)), tuple(self.draw.randint(-10 ** 60 + 1, 10 ** 60 - 1)
                                                         for _ in range(cells)))
        return stand, drawn_message(self.draw, burdens, self.draw.randrange(len(burdens)))

    def test_script_hear_executes_the_statements(self):
        for _ in range(500):
            parts = drawn_script_parts(self.draw)
            script = Script(*parts)
            for _ in range(4):
                stand, message = self.drawn_hearing(parts)
                self.assertEqual(script_hear(script, stand, message), executed(parts, stand, message))

    def test_compiled_hears_what_the_script_hears(self):
        compiled_many = 0
        for _ in range(800):
            parts = drawn_script_parts(self.draw)
            script = Script(*parts)
            rows, first = self.effects(parts)
            try:
                listener = compiled(script)
            except TooGreat as error:
                self.assertEqual(error.rule, first)
                continue
            compiled_many += 1
            self.assertIsNone(first)
            self.assertTrue(listener == Listener(parts[0], rows, parts[3]))
            for _ in range(4):
                stand, message = self.drawn_hearing(parts)
                self.assertEqual(listener.hear(stand, message), script_hear(script, stand, message))
        self.assertTrue(400 < compiled_many < 780)

    def effects(self, parts):
        """Return the rules, read off from what the statements do to single ones, and the first that is too great."""
        burdens, cells, blocks, _ = parts
        rules, first = [], None
        for control in range(len(blocks)):
            of_control = []
            for kind, burden in enumerate(burdens):
                behind, constants = executed(parts, (control, (0,) * cells), (kind, (0,) * burden))
                columns = [constants]
                for one in range(cells + burden):
                    entries = tuple(int(at == one) for at in range(cells + burden))
                    _, there = executed(parts, (control, entries[:cells]), (kind, entries[cells:]))
                    columns.append([x - y for x, y in zip(there, constants)])
                rows = [list(row) for row in zip(*columns)]
                of_control.append((behind, rows))
                if first is None and any(not -9 <= entry <= 9 for row in rows for entry in row):
                    first = (control, kind)
            rules.append(of_control)
        return rules, first


if __name__ == "__main__":
    unittest.main()
