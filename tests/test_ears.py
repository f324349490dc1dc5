"""Ears: the examples, the edges, the errors, what stays as it was, and drawn deeds beside a listener that hears all."""

import copy
import itertools
import random
import unittest

from drawing import drawn_message, drawn_parts, drawn_stand, with_shows
from latecomers.ears import Ear, branches, set_stand, tried
from latecomers.errors import NoCell, NoMessage, NoNumber, NoStand
from latecomers.listeners import Listener
from samples import NO_INTEGERS, adder, check_calls, check_raises, pair, shifter

GREAT = 10 ** 60 - 1
NO_MESSAGES = [None, 0, True, "ab", [], [0, (0,)], (), (0,), (0, (0,), 0), (0, [0]), (0, ()), (0, (0, 0)), (2, (0,)), (-1, (0,)),
               {0: 0}, *[(item, (0,)) for item in NO_INTEGERS], *[(0, (item,)) for item in NO_INTEGERS]]
NO_STANDS = [None, 0, "ab", [], [0, (0,)], (), (0,), (0, (0,), 0), (0, [0]), (0, ()), (0, (0, 0)), (1, (0,)), (-1, (0,)),
             *[(item, (0,)) for item in NO_INTEGERS], *[(0, (item,)) for item in NO_INTEGERS]]


def looked_at(ear):
    """Return all that can be asked of an ear."""
    return ear.stand(), ear.control, ear.cells, len(ear), ear.seen()


def add(number):
    return 1, (number,)


def put(number):
    return 0, (number,)


class EarTest(unittest.TestCase):

    def setUp(self):
        self.ear = Ear(adder())

    def test_it_begins_at_the_start(self):
        self.assertEqual(looked_at(self.ear), ((0, (0,)), 0, (0,), 0, (0,)))
        self.assertEqual(looked_at(Ear(shifter())), ((0, (0, 0, 0)), 0, (0, 0, 0), 0, ()))

    def test_hear(self):
        self.assertIsNone(self.ear.hear(add(5)))
        self.assertEqual(looked_at(self.ear), ((0, (5,)), 0, (5,), 1, (5,)))
        self.assertIsNone(self.ear.hear(add(GREAT)))
        self.assertEqual(looked_at(self.ear), ((0, (GREAT + 5,)), 0, (GREAT + 5,), 2, (GREAT + 5,)))
        ear = Ear(pair())
        ear.hear((1, ()))
        ear.hear((0, (7,)))
        self.assertEqual((ear.stand(), len(ear)), ((1, (7,)), 2))

    def test_hear_raises(self):
        self.ear.hear(add(5))
        for bad in NO_MESSAGES:
            with self.subTest(bad=bad):
                check_raises(self, NoMessage, {"index": 0}, self.ear.hear, bad)
                self.assertEqual(looked_at(self.ear), ((0, (5,)), 0, (5,), 1, (5,)))

    def test_control(self):
        ear = Ear(pair())
        ear.hear((1, ()))
        ear.control = 1
        self.assertEqual((ear.stand(), ear.control, len(ear)), ((1, (1,)), 1, 1))
        ear.hear((0, (4,)))
        self.assertEqual((ear.stand(), len(ear)), ((1, (4,)), 2))
        ear.control = 0
        ear.hear((1, ()))
        self.assertEqual((ear.stand(), len(ear)), ((0, (5,)), 3))
        for bad in [*NO_INTEGERS, -1, 2, 3, 10 ** 60]:
            with self.subTest(bad=bad):
                with self.assertRaises(NoStand):
                    ear.control = bad
                self.assertEqual((ear.stand(), len(ear)), ((0, (5,)), 3))

    def test_cells_may_not_be_set_as_a_whole(self):
        with self.assertRaises(AttributeError):
            self.ear.cells = (1,)

    def test_one_cell(self):
        ear = Ear(shifter())
        for cell in range(3):
            ear[cell] = 10 + cell
        self.assertEqual([ear[cell] for cell in range(3)], [10, 11, 12])
        self.assertEqual((ear.cells, len(ear)), ((10, 11, 12), 0))
        ear.hear((0, (5,)))
        self.assertEqual((ear.cells, ear[0], ear[2], len(ear)), ((5, 10, 11), 5, 11, 1))
        ear[1] = -GREAT
        ear[1] -= 1
        self.assertEqual((ear.stand(), len(ear)), ((0, (5, -GREAT - 1, 11)), 1))

    def test_no_cell_and_no_number(self):
        ear = Ear(shifter())
        ear.hear((0, (5,)))
        for bad in [*NO_INTEGERS, -1, 3, 10 ** 60, slice(0, 1), (0, 0), Ellipsis]:
            with self.subTest(bad=bad):
                with self.assertRaises(NoCell):
                    ear[bad]
                for number in (1, None):
                    with self.assertRaises(NoCell):
                        ear[bad] = number
        for bad in [*NO_INTEGERS, 1.5, (1,)]:
            with self.subTest(bad=bad):
                with self.assertRaises(NoNumber):
                    ear[2] = bad
        self.assertEqual(looked_at(ear), ((0, (5, 0, 0)), 0, (5, 0, 0), 1, ()))

    def test_seen(self):
        ear = Ear(Listener([0], [[(1, [[1, 1]])], [(0, [[1, 1]])]], [[[0, 1], [3, -1]], []]))
        self.assertEqual(ear.seen(), (0, 3))
        ear[0] = 5
        self.assertEqual(ear.seen(), (5, -2))
        ear.hear((0, ()))
        self.assertEqual(ear.seen(), ())
        ear.control = 0
        self.assertEqual(ear.seen(), (6, -3))

    def test_two_ears_of_one_listener(self):
        listener = adder()
        one, other = Ear(listener), Ear(listener)
        one.hear(add(5))
        self.assertEqual((one.cells, other.cells, len(other)), ((5,), (0,), 0))
        self.assertTrue(listener == adder())

    def test_it_copies_what_it_is_created_from(self):
        listener = adder()
        ear = Ear(listener)
        ear.hear(add(5))
        listener.__init__([0], [[(0, [[7, 0]])]], [[]])
        ear.hear(add(2))
        self.assertEqual(looked_at(ear), ((0, (7,)), 0, (7,), 2, (7,)))

    def test_two_hundred_messages_and_settings(self):
        ear = Ear(Listener([2], [[(0, [[9] * 6] * 3)]], [[]]))
        for at in range(66):
            ear.hear((0, (GREAT, -GREAT)))
            ear[at % 3] = GREAT
            set_stand(ear, (0, (GREAT, at, at)))
        ear.hear((0, (1, 2)))
        ear.control = 0
        self.assertEqual(len(ear), 67)
        self.assertEqual(ear[0], 9 * (1 + GREAT + 65 + 65 + 3))


class TraceTest(unittest.TestCase):

    def setUp(self):
        self.ear = Ear(adder())

    def test_each_step_hears_one_message(self):
        steps = self.ear.trace([add(1), put(7), add(2)])
        self.assertEqual(looked_at(self.ear)[3], 0)
        for count, stand in enumerate([(0, (1,)), (0, (7,)), (0, (9,))], 1):
            self.assertEqual(next(steps), stand)
            self.assertEqual((self.ear.stand(), len(self.ear)), (stand, count))
        self.assertIsNone(next(steps, None))
        self.assertEqual((self.ear.stand(), len(self.ear)), ((0, (9,)), 3))

    def test_an_empty_list(self):
        self.assertEqual(list(self.ear.trace([])), [])
        self.assertEqual(len(self.ear), 0)

    def test_a_message_is_checked_in_its_own_step(self):
        for bad in NO_MESSAGES:
            ear = Ear(adder())
            steps = ear.trace([add(1), add(2), bad, add(3)])
            self.assertEqual([next(steps), next(steps)], [(0, (1,)), (0, (3,))])
            check_raises(self, NoMessage, {"index": 2}, next, steps)
            self.assertEqual((ear.stand(), len(ear)), ((0, (3,)), 2))
            self.assertIsNone(next(steps, None))
            self.assertEqual((ear.stand(), len(ear)), ((0, (3,)), 2))
        check_raises(self, NoMessage, {"index": 0}, list, self.ear.trace([None, None]))
        self.assertEqual(len(self.ear), 0)

    def test_what_is_not_reached_is_neither_checked_nor_heard(self):
        messages = [add(1), add(2), None, add(3)]
        for stand in self.ear.trace(messages):
            if stand == (0, (3,)):
                break
        self.assertEqual((self.ear.stand(), len(self.ear)), ((0, (3,)), 2))
        steps = self.ear.trace(messages)
        self.assertEqual(len(self.ear), 2)
        self.assertEqual(next(steps), (0, (4,)))
        steps.close()
        self.assertEqual((self.ear.stand(), len(self.ear)), ((0, (4,)), 3))
        self.ear.trace([None])
        self.assertEqual(len(self.ear), 3)

    def test_the_list_stays(self):
        messages = [add(1), put(2)]
        self.assertEqual(list(self.ear.trace(messages)), [(0, (1,)), (0, (2,))])
        self.assertEqual(messages, [add(1), put(2)])

    def test_an_ear_that_was_set(self):
        self.ear[0] = 10
        self.assertEqual(list(self.ear.trace([add(1)] * 60))[-1], (0, (70,)))


class BlockTest(unittest.TestCase):

    def setUp(self):
        self.ear = Ear(pair())
        self.ear.hear((1, ()))
        self.before = looked_at(self.ear)

    def deeds(self):
        self.ear.hear((0, (5,)))
        self.ear.control = 0
        self.ear[0] = 9
        self.ear.hear((1, ()))
        set_stand(self.ear, (1, (3,)))
        list(self.ear.trace([(1, ())] * 3))

    def test_the_block_binds_the_ear_itself(self):
        with self.ear as same:
            self.assertIs(same, self.ear)
            same.hear((1, ()))
            self.assertEqual(self.ear.cells, (2,))
        self.assertIs(same, self.ear)

    def test_behind_the_block_all_is_as_it_was(self):
        with self.ear:
            self.assertEqual(looked_at(self.ear), self.before)
            self.deeds()
            self.assertEqual((self.ear.stand(), len(self.ear)), ((1, (6,)), 6))
        self.assertEqual(looked_at(self.ear), self.before)
        self.ear.hear((1, ()))
        self.assertEqual((self.ear.stand(), len(self.ear)), ((0, (2,)), 2))

    def test_an_exception_is_passed_on(self):
        for error in (KeyError("a"), NoStand(), ZeroDivisionError(), KeyboardInterrupt(), SystemExit(), GeneratorExit()):
            with self.assertRaises(type(error)) as caught:
                with self.ear:
                    self.deeds()
                    raise error
            self.assertIs(caught.exception, error)
            self.assertEqual(looked_at(self.ear), self.before)
        with self.assertRaises(NoMessage):
            with self.ear:
                self.ear.hear((1, ()))
                self.ear.hear(None)
        self.assertEqual(looked_at(self.ear), self.before)

    def test_a_block_may_end_in_any_way(self):
        def returned():
            with self.ear as same:
                self.deeds()
                return same.stand()

        self.assertEqual(returned(), (1, (6,)))
        self.assertEqual(looked_at(self.ear), self.before)
        for _ in range(3):
            with self.ear:
                self.deeds()
                break
        self.assertEqual(looked_at(self.ear), self.before)
        for _ in range(3):
            with self.ear:
                self.deeds()
                continue
        self.assertEqual(looked_at(self.ear), self.before)

    def test_blocks_inside_of_each_other(self):
        def nested(depth):
            before = looked_at(self.ear)
            if depth == 0:
                return
            with self.ear as same:
                same.hear((1, ()))
                self.ear[0] += depth
                nested(depth - 1)
                self.assertEqual(len(self.ear), before[3] + 1)
                self.ear.hear((0, (depth,)))
                nested(depth // 2)
            self.assertEqual(looked_at(self.ear), before)

        nested(8)
        self.assertEqual(looked_at(self.ear), self.before)

    def test_twenty_blocks_deep(self):
        def nested(depth):
            before = looked_at(self.ear)
            with self.ear:
                self.ear.hear((1, ()))
                if depth > 1:
                    nested(depth - 1)
                else:
                    raise KeyError(len(self.ear))
            self.assertEqual(looked_at(self.ear), before)

        with self.assertRaises(KeyError) as caught:
            nested(20)
        self.assertEqual(caught.exception.args, (21,))
        self.assertEqual(looked_at(self.ear), self.before)

    def test_the_error_of_an_inner_block_may_be_caught_in_the_outer_one(self):
        with self.ear:
            self.ear.hear((0, (5,)))
            middle = looked_at(self.ear)
            try:
                with self.ear:
                    self.deeds()
                    raise KeyError
            except KeyError:
                pass
            self.assertEqual(looked_at(self.ear), middle)
            self.ear.hear((1, ()))
        self.assertEqual(looked_at(self.ear), self.before)

    def test_one_block_behind_the_other(self):
        for many in range(4):
            with self.ear:
                for _ in range(many):
                    self.ear.hear((1, ()))
                self.assertEqual(len(self.ear), 1 + many)
            self.assertEqual(looked_at(self.ear), self.before)

    def test_a_trace_inside_of_a_block(self):
        with self.ear:
            steps = self.ear.trace([(1, ())] * 5)
            self.assertEqual([next(steps), next(steps)], [(0, (2,)), (0, (3,))])
        self.assertEqual(looked_at(self.ear), self.before)
        with self.assertRaises(NoMessage) as caught:
            with self.ear:
                list(self.ear.trace([(1, ()), None]))
        self.assertEqual(caught.exception.index, 1)
        self.assertEqual(looked_at(self.ear), self.before)

    def test_blocks_of_two_ears(self):
        other = Ear(pair())
        with self.ear, other:
            self.ear.hear((0, (5,)))
            other.hear((0, (6,)))
            with self.ear:
                other.hear((1, ()))
                self.ear.hear((1, ()))
            self.assertEqual((self.ear.stand(), other.stand()), ((1, (5,)), (1, (7,))))
        self.assertEqual((looked_at(self.ear), other.stand(), len(other)), (self.before, (0, (0,)), 0))


class TriedTest(unittest.TestCase):

    def test_examples(self):
        self.assertEqual(tried(Ear(adder()), [(1, (1,)), (0, (7,))]), [(0, (1,)), (0, (7,))])

    def test_it_begins_at_the_ears_stand_and_leaves_it(self):
        ear = Ear(adder())
        ear.hear(add(5))
        before = looked_at(ear)
        self.assertEqual(tried(ear, [add(1), add(2)]), [(0, (6,)), (0, (8,))])
        self.assertEqual(looked_at(ear), before)
        self.assertEqual(tried(ear, []), [])
        self.assertEqual(tried(ear, [add(1)] * 60)[-1], (0, (65,)))
        self.assertEqual(looked_at(ear), before)

    def test_it_raises_and_leaves_the_ear(self):
        ear = Ear(adder())
        ear.hear(add(5))
        before = looked_at(ear)
        for bad in NO_MESSAGES:
            for at in (0, 1, 3):
                messages = [add(1)] * at + [bad, None, add(2)]
                with self.subTest(bad=bad):
                    check_raises(self, NoMessage, {"index": at}, tried, ear, messages)
                    self.assertEqual(looked_at(ear), before)

    def test_inside_of_a_block(self):
        ear = Ear(adder())
        with ear:
            ear.hear(add(5))
            self.assertEqual(tried(ear, [add(1)]), [(0, (6,))])
            self.assertEqual((ear.stand(), len(ear)), ((0, (5,)), 1))
        self.assertEqual((ear.stand(), len(ear)), ((0, (0,)), 0))


class BranchesTest(unittest.TestCase):

    def setUp(self):
        self.ear = Ear(adder())
        self.ear.hear(add(100))
        self.before = looked_at(self.ear)

    def test_examples(self):
        self.assertEqual(branches(Ear(adder()), [((1, (1,)), [((1, (2,)), [])]), ((0, (5,)), [])]),
                         [(0, (1,)), (0, (3,)), (0, (5,))])

    def test_each_pair_begins_where_the_one_before_began(self):
        tree = [(add(1), [(add(10), []), (put(7), [(add(1), [])]), (add(20), [])]), (add(2), []), (add(3), [(add(10), [])])]
        self.assertEqual([cells[0] for control, cells in branches(self.ear, tree)], [101, 111, 7, 8, 121, 102, 103, 113])
        self.assertEqual(looked_at(self.ear), self.before)

    def test_trees_without_a_pair(self):
        self.assertEqual(branches(self.ear, []), [])
        self.assertEqual(branches(self.ear, [(add(1), [])]), [(0, (101,))])
        self.assertEqual(looked_at(self.ear), self.before)

    def test_twenty_trees_deep(self):
        tree = []
        for depth in range(20):
            tree = [(add(1), tree), (add(5), [])] if depth else []
        self.assertEqual([cells[0] for control, cells in branches(self.ear, tree)],
                         [*range(101, 120), *range(123, 104, -1)])
        self.assertEqual(looked_at(self.ear), self.before)

    def test_one_tree_in_two_places(self):
        same = [(add(1), [])]
        self.assertEqual([cells[0] for control, cells in branches(self.ear, [(put(0), same), (put(5), same)])], [0, 1, 5, 6])

    def test_it_raises_with_the_number_of_messages_heard(self):
        good = (add(1), [])
        bads = [None, 0, True, "ab", [], [add(1), []], (), (add(1),), (add(1), [], []), (add(1), ()), (add(1), None), (add(1), {}),
                ([], add(1)), {0: 0}, add(1), *[(bad, []) for bad in NO_MESSAGES]]
        for bad in bads:
            for tree, index in [([bad], 0), ([good, bad], 1), ([good, good, bad, good], 2), ([(add(1), [bad]), good], 1),
                                ([(add(1), [good, (add(2), [good, bad])]), bad], 4), ([(add(1), [good, (add(2), [good])]), bad], 4),
                                ([(add(1), [(add(1), [bad])]), None], 2)]:
                with self.subTest(bad=bad, tree=tree):
                    check_raises(self, NoMessage, {"index": index}, branches, self.ear, tree)
                    self.assertEqual(looked_at(self.ear), self.before)

    def test_a_pair_is_checked_when_it_is_taken(self):
        # The pair of the inner tree is taken before the second one of the outer tree.
        check_raises(self, NoMessage, {"index": 1}, branches, self.ear, [(add(1), [None]), None])
        # The message of a pair is heard before its own tree is looked at.
        check_raises(self, NoMessage, {"index": 1}, branches, self.ear, [(add(1), [(add(1), None)])])

    def test_inside_of_blocks(self):
        def nested(depth):
            with self.ear:
                if depth:
                    nested(depth - 1)
                else:
                    self.assertEqual(branches(self.ear, [(add(1), [(add(1), [])])]), [(0, (101,)), (0, (102,))])
                    self.assertRaises(NoMessage, branches, self.ear, [(add(1), [None])])
            self.assertEqual(looked_at(self.ear), self.before)

        nested(20)


class SetStandTest(unittest.TestCase):

    def test_control_and_cells(self):
        ear = Ear(pair())
        ear.hear((1, ()))
        self.assertIsNone(set_stand(ear, (1, (-GREAT,))))
        self.assertEqual(looked_at(ear), ((1, (-GREAT,)), 1, (-GREAT,), 1, ()))
        ear.hear((1, ()))
        self.assertEqual((ear.stand(), len(ear)), ((1, (1 - GREAT,)), 2))

    def test_no_stand(self):
        ear = Ear(adder())
        ear.hear(add(5))
        before = looked_at(ear)
        for bad in NO_STANDS:
            with self.subTest(bad=bad):
                check_raises(self, NoStand, {}, set_stand, ear, bad)
                self.assertEqual(looked_at(ear), before)


class EarLeavesAloneTest(unittest.TestCase):

    def test_arguments_and_answers(self):
        ear = Ear(adder())
        tree = [(add(1), [(add(2), [])]), (put(5), [])]
        check_calls(self, [(tried, ear, [add(1), put(2)]), (branches, ear, tree), (tried, ear, []), (branches, ear, []),
                           (ear.seen,), (ear.stand,), (set_stand, ear, (0, (3,)))])

    def test_messages_that_were_heard_may_be_changed(self):
        ear = Ear(adder())
        messages = [add(1), add(2)]
        list(ear.trace(messages))
        messages.clear()
        self.assertEqual((ear.stand(), len(ear)), ((0, (3,)), 2))


class DrawnEarsTest(unittest.TestCase):

    def setUp(self):
        self.draw = random.Random(350)

    def drawn_messages(self, parts, length):
        return [drawn_message(self.draw, parts[0], self.draw.randrange(len(parts[0]))) for _ in range(length)]

    def cases(self, many):
        for _ in range(many):
            parts = with_shows(self.draw, drawn_parts(self.draw))
            yield parts, Listener(*parts)

    def check(self, listener, ear, stand, count):
        self.assertEqual(looked_at(ear), (stand, *stand, count, listener.seen(stand)))
        self.assertEqual([ear[cell] for cell in range(listener.cell_count())], list(stand[1]))

    def deed(self, parts, listener, ear, stand, count, depth):
        """Let the ear do something drawn; return the stand and the number of messages as a listener has them."""
        choice = self.draw.randrange(9)
        if choice == 0:
            stand = (self.draw.randrange(len(parts[1])), stand[1])
            ear.control = stand[0]
        elif choice == 1:
            cell, number = self.draw.randrange(len(stand[1])), self.draw.randint(-9, 9)
            stand = (stand[0], tuple(number if at == cell else old for at, old in enumerate(stand[1])))
            ear[cell] = number
        elif choice == 2:
            stand = drawn_stand(self.draw, parts)
            set_stand(ear, stand)
        elif choice == 3:
            messages = self.drawn_messages(parts, self.draw.randint(0, 4))
            stop = self.draw.randint(0, 4)
            found = list(itertools.islice(ear.trace(messages), stop))
            heard = messages[:stop]
            self.assertEqual(found, [listener.hear_all(stand, heard[:at + 1]) for at in range(len(heard))])
            stand, count = listener.hear_all(stand, heard), count + len(heard)
        elif choice == 4:
            messages = self.drawn_messages(parts, self.draw.randint(0, 5))
            self.assertEqual(tried(ear, messages), [listener.hear_all(stand, messages[:at + 1]) for at in range(len(messages))])
            messages.insert(self.draw.randint(0, len(messages)), None)
            check_raises(self, NoMessage, {"index": messages.index(None)}, tried, ear, messages)
        elif choice == 5:
            self.check_branches(parts, listener, ear, stand)
        elif choice == 6 and depth < 6:
            self.block(parts, listener, ear, stand, count, depth)
        else:
            message, = self.drawn_messages(parts, 1)
            ear.hear(message)
            stand, count = listener.hear_all(stand, [message]), count + 1
        self.check(listener, ear, stand, count)
        return stand, count

    def block(self, parts, listener, ear, stand, count, depth):
        try:
            with ear:
                for _ in range(self.draw.randint(0, 4)):
                    stand, count = self.deed(parts, listener, ear, stand, count, depth + 1)
                if self.draw.random() < 0.3:
                    raise KeyError
        except KeyError:
            pass

    def drawn_tree(self, parts, depth):
        if depth == 0:
            return []
        return [(message, self.drawn_tree(parts, self.draw.randint(0, depth - 1)))
                for message in self.drawn_messages(parts, self.draw.randint(0, 3))]

    def expected(self, listener, stand, tree):
        found = []
        for message, below in tree:
            behind = listener.hear_all(stand, [message])
            found += [behind] + self.expected(listener, behind, below)
        return found

    def check_branches(self, parts, listener, ear, stand):
        tree = self.drawn_tree(parts, 4)
        kept = copy.deepcopy(tree)
        expected = self.expected(listener, stand, tree)
        self.assertEqual(branches(ear, tree), expected)
        self.assertEqual(tree, kept)
        chosen, index = tree, 0
        while True:
            # Go down to a drawn tree; count what is heard before its drawn place.
            at = self.draw.randint(0, len(chosen))
            index += len(self.expected(listener, stand, chosen[:at]))
            if at == len(chosen) or self.draw.random() < 0.4:
                chosen.insert(at, self.draw.choice([None, (), ((0,), []), (None, None)]))
                break
            index += 1
            chosen = chosen[at][1]
        check_raises(self, NoMessage, {"index": index}, branches, ear, tree)

    def test_an_ear_agrees_with_its_listener_behind_any_deeds(self):
        for parts, listener in self.cases(300):
            ear, stand, count = Ear(listener), listener.start(), 0
            for _ in range(20):
                stand, count = self.deed(parts, listener, ear, stand, count, 0)


if __name__ == "__main__":
    unittest.main()
