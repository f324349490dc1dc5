"""Listeners: the examples, the edges, the errors and what calls leave alone."""

import copy
import unittest

from latecomers.errors import NoListener, NoMessage, NoRule, NoStand, NoWord
from latecomers.listeners import Listener

NO_INTEGERS = [True, False, None, "0", 0.0, b"0", [0], (0,), {}]
NO_LISTS = [None, True, 0, 1, "ab", "", b"a", (), {}, ([0],)]


def adder():
    """The listener L of the document."""
    return Listener([1, 1], [[(0, [[0, 0, 1]]), (0, [[0, 1, 1]])]], [[[0, 1]]])


def wide_parts():
    """Three kinds, three controls, three cells, burdens 0, 1 and 2, shows 0, 1 and 2."""
    rules = []
    for control in range(3):
        of_control = []
        for kind in range(3):
            rows = [[control - kind, 1, 2, -3] + [9] * kind, [-9, 0, control, kind] + [-1] * kind,
                    [0, 5, -5, 1] + [kind] * kind]
            of_control.append(((control + kind) % 3, rows))
        rules.append(of_control)
    return [0, 1, 2], rules, [[], [[1, 2, 3, 4]], [[-9, 9, 0, 0], [0, 0, 0, 0]]]


def wide():
    return Listener(*wide_parts())


class ListenerTest(unittest.TestCase):

    def test_examples(self):
        listener = adder()
        self.assertEqual(listener.hear_all((0, (5,)), [(1, (2,)), (1, (3,))]), (0, (10,)))
        self.assertEqual(listener.word_map(0, [1, 0, 1]), (0, [[0, 0, 0, 1, 1]]))

    def test_counts_and_start(self):
        listener = adder()
        self.assertEqual((listener.kind_count(), listener.control_count(), listener.cell_count()), (2, 1, 1))
        self.assertEqual(listener.start(), (0, (0,)))
        listener = wide()
        self.assertEqual((listener.kind_count(), listener.control_count(), listener.cell_count()), (3, 3, 3))
        self.assertEqual(listener.start(), (0, (0, 0, 0)))
        odd = Listener([0], [[(1, [[0, 1, 0], [0, 0, 1]])], [(0, [[1, 1, 0], [0, 0, 1]])]], [[], []])
        self.assertEqual((odd.kind_count(), odd.control_count(), odd.cell_count()), (1, 2, 2))
        self.assertEqual(odd.start(), (0, (0, 0)))

    def test_rules_in_brackets(self):
        listener = adder()
        self.assertEqual(listener[0, 0], (0, [[0, 0, 1]]))
        self.assertEqual(listener[0, 1], (0, [[0, 1, 1]]))
        listener, (_, rules, _) = wide(), wide_parts()
        for control in range(3):
            for kind in range(3):
                found = listener[control, kind]
                self.assertEqual(found, rules[control][kind])
                self.assertIsInstance(found, tuple)

    def test_hear(self):
        listener = adder()
        self.assertEqual(listener.hear((0, (5,)), (0, (7,))), (0, (7,)))
        self.assertEqual(listener.hear((0, (5,)), (1, (-7,))), (0, (-2,)))
        listener = wide()
        self.assertEqual(listener.hear((1, (10, 20, 30)), (0, ())), (1, (-39, 11, -20)))
        self.assertEqual(listener.hear((1, (10, 20, 30)), (2, (4, 5))), (0, (40, 62, -2)))

    def test_all_cells_change_at_once(self):
        exchange = Listener([0], [[(0, [[0, 0, 1], [0, 1, 0]])]], [[]])
        self.assertEqual(exchange.hear((0, (3, 4)), (0, ())), (0, (4, 3)))
        shift = Listener([1], [[(0, [[0, 0, 0, 0, 1], [0, 1, 0, 0, 0], [0, 0, 1, 0, 0]])]], [[]])
        self.assertEqual(shift.hear_all((0, (1, 2, 3)), [(0, (8,)), (0, (9,))]), (0, (9, 8, 1)))

    def test_hear_all_of_nothing_is_the_stand_itself(self):
        self.assertEqual(adder().hear_all((0, (5,)), []), (0, (5,)))
        self.assertEqual(wide().hear_all((2, (1, -2, 3)), []), (2, (1, -2, 3)))

    def test_great_numbers_and_sixty_messages(self):
        great = 10 ** 60 - 1
        listener = adder()
        self.assertEqual(listener.hear((0, (great,)), (1, (great,))), (0, (2 * great,)))
        self.assertEqual(listener.hear((0, (-great,)), (0, (-great,))), (0, (-great,)))
        self.assertEqual(listener.hear_all((0, (great,)), [(1, (great,))] * 60), (0, (61 * great,)))
        self.assertEqual(listener.seen((0, (-great,))), (-great,))
        tripled = Listener([2], [[(0, [[9, 9, 9, 9, 9, 9], [9, 9, 9, 9, 9, 9], [9, 9, 9, 9, 9, 9]])]], [[]])
        stand = tripled.hear_all((0, (great,) * 3), [(0, (great, great))] * 60)
        expected = great
        for _ in range(60):
            expected = 9 + 27 * expected + 18 * great
        self.assertEqual(stand, (0, (expected,) * 3))

    def test_what_was_returned_may_be_handed_in_again(self):
        listener = Listener([0], [[(0, [[9, 9]])]], [[[9, 9]]])
        stand = listener.start()
        for _ in range(30):
            stand = listener.hear_all(stand, [(0, ())] * 60)
        self.assertEqual(stand[1][0], 9 * (9 ** 1800 - 1) // 8)
        self.assertEqual(listener.seen(stand), (9 + 9 * stand[1][0],))

    def test_seen(self):
        self.assertEqual(adder().seen((0, (4,))), (4,))
        listener = wide()
        self.assertEqual(listener.seen((0, (1, 2, 3))), ())
        self.assertEqual(listener.seen((1, (10, 100, 1000))), (4321,))
        self.assertEqual(listener.seen((2, (10, 100, 1000))), (81, 0))

    def test_word_map_of_the_empty_word(self):
        self.assertEqual(adder().word_map(0, []), (0, [[0, 1]]))
        self.assertEqual(wide().word_map(2, []), (2, [[0, 1, 0, 0], [0, 0, 1, 0], [0, 0, 0, 1]]))

    def test_word_map_orders_the_carried_integers(self):
        listener = Listener([2, 0, 1], [[(0, [[1, 3, 1, 2]]), (0, [[5, 2]]), (0, [[0, 1, 7]])]], [[]])
        self.assertEqual(listener.word_map(0, [0]), (0, [[1, 3, 1, 2]]))
        self.assertEqual(listener.word_map(0, [0, 1]), (0, [[7, 6, 2, 4]]))
        self.assertEqual(listener.word_map(0, [1, 1]), (0, [[15, 4]]))
        self.assertEqual(listener.word_map(0, [2, 0, 2]), (0, [[1, 3, 21, 1, 2, 7]]))

    def test_word_map_of_twelve_kinds(self):
        self.assertEqual(adder().word_map(0, [1] * 12), (0, [[0, 1] + [1] * 12]))
        great = Listener([2], [[(0, [[9] * 6] * 3)]], [[]])
        control, rows = great.word_map(0, [0] * 12)
        self.assertEqual([len(row) for row in rows], [28] * 3)
        self.assertEqual(rows[0][-3:], [9 * 27, 9, 9])
        self.assertEqual(rows[0][1:4], [9 * 27 ** 11] * 3)

    def test_equality(self):
        self.assertTrue(adder() == adder())
        self.assertFalse(adder() != adder())
        self.assertTrue(wide() == wide())
        self.assertFalse(adder() == wide())
        self.assertTrue(adder() != wide())
        for place in range(3):
            parts = [[1, 1], [[(0, [[0, 0, 1]]), (0, [[0, 1, 1]])]], [[[0, 1]]]]
            parts[place] = [[1, 0], [[(0, [[0, 0, 1]]), (0, [[0, 1, 2]])]], [[]]][place]
            if place == 0:
                parts[1] = [[(0, [[0, 0, 1]]), (0, [[0, 1]])]]
            self.assertFalse(adder() == Listener(*parts))
        # Burdens that the rows do not tell apart without the order of the kinds.
        self.assertFalse(Listener([0], [[(0, [[0, 1]])]], [[]]) == Listener([0, 0], [[(0, [[0, 1]])] * 2], [[]]))

    def test_a_listener_is_not_equal_to_another_object(self):
        class Like:
            burdens, rules, shows = [1, 1], [[(0, [[0, 0, 1]]), (0, [[0, 1, 1]])]], [[[0, 1]]]

            def __eq__(self, other):
                return True

        for other in (None, 0, "listener", [], ([1, 1], Like.rules, Like.shows), Like(), Listener):
            self.assertFalse(adder() == other)
            self.assertTrue(adder() != other)

    def test_a_listener_is_not_iterated_over(self):
        self.assertRaises(TypeError, iter, adder())


class ListenerCreationTest(unittest.TestCase):

    def assert_place(self, place, burdens, rules, shows):
        with self.assertRaises(NoListener) as caught:
            Listener(burdens, rules, shows)
        self.assertEqual(caught.exception.place, place)

    def test_burdens(self):
        _, rules, shows = wide_parts()
        for bad in [*NO_LISTS, [], [0] * 4, [3], [-1], [0, 3], [1, 1, -1], *[[1, bad] for bad in NO_INTEGERS]]:
            with self.subTest(bad=bad):
                self.assert_place("burdens", bad, rules, shows)
                self.assert_place("burdens", bad, None, None)

    def test_rules(self):
        good = (0, [[0, 1, 1]])
        for bad in [
            *NO_LISTS, [], [None], [[]], [(good,)], (([good],)), [good], [[good, good]], [[good], []],
            [[list(good)]], [[(0,)]], [[(0, [[0, 1, 1]], 0)]], [[None]], [["ab"]],
            [[(1, [[0, 1, 1]])]], [[(-1, [[0, 1, 1]])]], [[(3, [[0, 1, 1]])]] * 3, [[good]] * 4,
            *[[[(bad, [[0, 1, 1]])], [good]] for bad in NO_INTEGERS],
            *[[[(0, bad)]] for bad in NO_LISTS], [[(0, [])]], [[(0, [[0, 1, 1]] * 2)]],
            [[(0, [[0, 1, 1, 1, 1, 1]] * 4)]],
            [[(0, [(0, 1, 1)])]], [[(0, [None])]], [[(0, ["011"])]], [[(0, [[]])]],
            [[(0, [[0, 1]])]], [[(0, [[0, 1, 1, 0]])]],
            [[(0, [[10, 1, 1]])]], [[(0, [[0, -10, 1]])]], [[(0, [[0, 1, 10 ** 60]])]],
            *[[[(0, [[0, 1, bad]])]] for bad in NO_INTEGERS],
            *[[[(0, [[bad, 1, 1]])]] for bad in NO_INTEGERS],
            # Another number of cells than before.
            [[good], [(0, [[0, 1, 0, 1], [0, 0, 1, 1]])]], [[(0, [[0, 1, 0, 1], [0, 0, 1, 1]])], [good]],
            [[(0, [[0, 1, 0, 1], [0, 0, 1, 1]])], [(0, [[0, 1, 0, 1]])]],
            [[good], [(0, [])]], [[good], [(2, [[0, 1, 1]])]], [[good], [(1, [[0, 1, 10]])]],
        ]:
            with self.subTest(bad=bad):
                self.assert_place("rules", [1], bad, [[[0, 1]]])
                self.assert_place("rules", [1], bad, None)

    def test_rows_follow_the_burden_of_their_kind(self):
        Listener([0, 2], [[(0, [[0, 1]]), (0, [[0, 1, 2, 3]])]], [[]])
        self.assert_place("rules", [2, 0], [[(0, [[0, 1]]), (0, [[0, 1, 2, 3]])]], [[]])
        self.assert_place("rules", [0, 2], [[(0, [[0, 1]]), (0, [[0, 1, 2]])]], [[]])
        self.assert_place("rules", [0, 2], [[(0, [[0, 1]])]], [[]])
        self.assert_place("rules", [0], [[(0, [[0, 1]]), (0, [[0, 1]])]], [[]])

    def test_shows(self):
        burdens, rules, _ = wide_parts()
        for bad in [
            *NO_LISTS, [], [[]], [[], []], [[], [], [], []], [[], [], None], [[], (), []], [[[0, 1, 2, 3]] * 3, [], []],
            [[], [[0, 1, 2]], []], [[], [[0, 1, 2, 3, 4]], []], [[], [(0, 1, 2, 3)], []], [[], [None], []],
            [[], [], [[0, 1, 2, 3], [0, 0, 0, 10]]], [[[-10, 0, 0, 0]], [], []],
            *[[[[0, 0, 0, bad]], [], []] for bad in NO_INTEGERS],
        ]:
            with self.subTest(bad=bad):
                self.assert_place("shows", burdens, rules, bad)

    def test_the_edges_are_accepted(self):
        Listener([2, 2, 2], [[(2, [[9, -9, 9, -9, 9, -9]] * 3)] * 3] * 3, [[[-9, 9, -9, 9]] * 2] * 3)
        Listener([0], [[(0, [[0, 0]])]], [[]])

    def test_a_failed_creation_changes_nothing(self):
        listener = adder()
        with self.assertRaises(NoListener):
            listener.__init__([0], [[(0, [[1, 1]])]], None)
        self.assertTrue(listener == adder())


class ListenerErrorsTest(unittest.TestCase):

    def test_brackets(self):
        listener = wide()
        for at in [(3, 0), (0, 3), (-1, 0), (0, -1), (True, 0), (0, False), (None, 0), ("0", 0), (0, 1.0),
                   (0,), (0, 0, 0), (), 0, -1, True, None, "00", [0, 0], slice(0, 1), {}, ((0, 0), 0), 10 ** 60,
                   (10 ** 60, 0)]:
            with self.subTest(at=at), self.assertRaises(NoRule):
                listener[at]

    def no_stands(self):
        """Return values that are no stands of the wide listener."""
        cells = (1, 2, 3)
        return [None, True, 0, "ab", [0, cells], (0,), (0, cells, 0), (), cells, (0, list(cells)), (0, (1, 2)),
                (0, (1, 2, 3, 4)), (0, ()), (0, None), (0, "123"), (3, cells), (-1, cells),
                *[(bad, cells) for bad in NO_INTEGERS], *[(0, (1, bad, 3)) for bad in NO_INTEGERS]]

    def no_messages(self):
        """Return values that are no messages of the wide listener."""
        return [None, True, 0, "ab", [1, (2,)], (1,), (1, (2,), 3), (), (1, [2]), (1, ()), (1, (2, 3)), (0, (1,)),
                (2, (1,)), (2, (1, 2, 3)), (1, 2), (1, "2"), (1, None), (3, ()), (-1, (1, 2)), (0, []), (0, None),
                *[(bad, (1,)) for bad in NO_INTEGERS], *[(1, (bad,)) for bad in NO_INTEGERS],
                *[(2, (1, bad)) for bad in NO_INTEGERS]]

    def test_stands(self):
        listener = wide()
        for stand in self.no_stands():
            with self.subTest(stand=stand):
                self.assertRaises(NoStand, listener.hear, stand, (0, ()))
                self.assertRaises(NoStand, listener.hear_all, stand, [(0, ())])
                self.assertRaises(NoStand, listener.hear_all, stand, [])
                self.assertRaises(NoStand, listener.seen, stand)

    def assert_message(self, index, call, *arguments):
        with self.assertRaises(NoMessage) as caught:
            call(*arguments)
        self.assertEqual(caught.exception.index, index)

    def test_messages(self):
        listener = wide()
        stand = (1, (1, 2, 3))
        for message in self.no_messages():
            with self.subTest(message=message):
                self.assert_message(0, listener.hear, stand, message)
                self.assert_message(0, listener.hear_all, stand, [message])
                self.assert_message(2, listener.hear_all, stand, [(0, ()), (1, (5,)), message, None])
                self.assert_message(59, listener.hear_all, stand, [(2, (0, 1))] * 59 + [message])
        for messages in [None, True, 0, "", "ab", (), ((0, ()),), {}, {0: (0, ())}]:
            with self.subTest(messages=messages):
                self.assert_message(-1, listener.hear_all, stand, messages)

    def test_words(self):
        listener = wide()
        for word in [*NO_LISTS, [3], [-1], [0, 1, 3], [0] * 13, [2] * 60, (0, 1), *[[0, bad] for bad in NO_INTEGERS]]:
            with self.subTest(word=word):
                self.assertRaises(NoWord, listener.word_map, 0, word)
        self.assertRaises(NoWord, adder().word_map, 0, [2])
        for control in [3, -1, 10 ** 60, *NO_INTEGERS]:
            with self.subTest(control=control):
                self.assertRaises(NoRule, listener.word_map, control, [0])
        self.assertRaises(NoRule, adder().word_map, 1, [0])

    def test_the_first_of_two_errors_is_raised(self):
        listener = wide()
        self.assertRaises(NoStand, listener.hear, None, None)
        self.assertRaises(NoStand, listener.hear_all, (0, (1, 2)), None)
        self.assertRaises(NoStand, listener.hear_all, (0, (1, 2)), [None])
        self.assertRaises(NoRule, listener.word_map, True, None)
        for parts, place in (((None, None, None), "burdens"), (([0], None, None), "rules"),
                             (([3], [[(0, [[0, 1]])]], None), "burdens")):
            with self.assertRaises(NoListener) as caught:
                Listener(*parts)
            self.assertEqual(caught.exception.place, place)


class ListenerLeavesAloneTest(unittest.TestCase):

    def test_creation_changes_nothing_and_copies(self):
        parts = wide_parts()
        listener = Listener(*parts)
        self.assertEqual(parts, wide_parts())
        burdens, rules, shows = parts
        burdens[0] = 2
        burdens.append(7)
        for of_control in rules:
            for _, rows in of_control:
                for row in rows:
                    row[0] = 77
                    row.append(1)
                rows.append([5])
            of_control.append(None)
        rules.append([])
        for rows in shows:
            for row in rows:
                row[0] = 77
            rows.append([1])
        shows.clear()
        self.assertTrue(listener == wide())
        self.assertEqual(listener.hear((1, (10, 20, 30)), (2, (4, 5))), (0, (40, 62, -2)))
        self.assertEqual(listener.seen((1, (10, 100, 1000))), (4321,))
        self.assertEqual(listener.word_map(1, [2, 0]), wide().word_map(1, [2, 0]))
        self.assertEqual((listener.kind_count(), listener.control_count(), listener.cell_count()), (3, 3, 3))

    def test_one_list_at_several_places_may_be_handed_in(self):
        row = [1, 1]
        listener = Listener([0], [[(0, [row])]], [[row, row]])
        row[0] = 5
        self.assertEqual(listener.seen((0, (3,))), (4, 4))
        self.assertEqual(listener.hear((0, (3,)), (0, ())), (0, (4,)))

    def test_what_is_returned_belongs_to_the_caller(self):
        listener = wide()
        for returned in (lambda: listener[1, 2], lambda: listener.word_map(1, []), lambda: listener.word_map(1, [2]),
                         lambda: listener.word_map(1, [2, 0, 1])):
            _, rows = returned()
            kept = copy.deepcopy(rows)
            self.assertEqual(len({id(item) for item in [rows, *rows]}), 4)
            for row in rows:
                row[0] = 99
                row.append(1)
            rows.append(None)
            self.assertEqual(returned()[1], kept)
        self.assertTrue(listener == wide())

    def test_the_lists_handed_in_stay(self):
        listener = wide()
        messages = [(0, ()), (2, (3, 4))]
        word = [0, 2]
        listener.hear_all((0, (1, 2, 3)), messages)
        listener.word_map(0, word)
        self.assertEqual((messages, word), ([(0, ()), (2, (3, 4))], [0, 2]))
        self.assertRaises(NoMessage, listener.hear_all, (0, (1, 2, 3)), messages + [None])
        self.assertTrue(listener == wide())


if __name__ == "__main__":
    unittest.main()
