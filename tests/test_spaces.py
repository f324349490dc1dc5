"""Spaces: the examples, the edges, the errors and what calls leave alone."""

import copy
import unittest

from latecomers.errors import NoMatrix, NoSpace, NoVector, NoWidth
from latecomers.spaces import common, image, in_space, joined, space, vanishing

NO_INTEGERS = [True, False, None, "1", 1.0, b"1", [1], (1,), {}]
NO_WIDTHS = [0, -1, 10, 10 ** 60, *NO_INTEGERS]
NO_LISTS = [None, True, 0, 1, "ab", "", b"a", (), ([1, 0],), {}, {0: [1, 0]}]

# Each of these breaks one of the properties of a canonical basis.
NO_SPACES = [
    *NO_LISTS,
    [[]], [None], [3], [[1, 0], 3], [3, [1, 0]], [[1, 0], (0, 1)], [(1, 0)], ["ab"], [[1, "0"]],
    [[True, 0]], [[1, False]], [[1.0, 0]], [[1, None]], [[[1], 0]],
    [[1] + [0] * 9],
    [[0, 0]], [[1, 0], [0, 0]],
    [[-1, 0]], [[0, -1]], [[1, 0], [0, -1]],
    [[2, 0]], [[2, 4]], [[1, 0], [0, 3]],
    [[0, 1], [1, 0]], [[1, 0], [1, 0]], [[1, 2], [1, 3]],
    [[1, 1], [0, 1]], [[1, 0, 3], [0, 1, 2], [0, 0, 1]],
    [[1, 0], [0, 1, 0]], [[1, 0, 0], [0, 1]], [[1], [0, 1]],
    [[1, 0], [0, 1], [0, 1]], [[1], [1]],
]


def unit_rows(width):
    return [[int(at == row) for at in range(width)] for row in range(width)]


class SpacesTest(unittest.TestCase):

    def test_examples(self):
        self.assertEqual(space(3, [[2, 4, 6], [1, 2, 4]]), [[1, 2, 0], [0, 0, 1]])
        self.assertIs(in_space([[1, 2, 0], [0, 0, 1]], [2, 4, 7]), True)
        self.assertEqual(common([[1, 0, 0], [0, 1, 0]], [[0, 1, 0], [0, 0, 1]]), [[0, 1, 0]])
        self.assertEqual(image([[1, 0], [0, 1]], [[1, 0], [0, 0], [1, 1]]), [[1, 0, 0], [0, 0, 1]])
        self.assertEqual(vanishing(3, [[1, 2, 0], [0, 0, 1]]), [[2, -1, 0]])

    def test_space(self):
        self.assertEqual(space(1, [[-6]]), [[1]])
        self.assertEqual(space(2, [[-2, 4]]), [[1, -2]])
        self.assertEqual(space(3, [[0, -4, 6], [0, 2, -3]]), [[0, 2, -3]])
        self.assertEqual(space(3, [[0, 0, 5], [0, 3, 1], [7, 1, 1]]), unit_rows(3))
        self.assertEqual(space(4, [[2, 3, 0, 1], [0, 0, 4, 6]]), [[2, 3, 0, 1], [0, 0, 2, 3]])
        self.assertEqual(space(4, [[2, 0, 0, 1], [0, 3, 0, 1]]), [[2, 0, 0, 1], [0, 3, 0, 1]])
        self.assertEqual(space(4, [[2, 3, 0, 2], [2, 0, 0, 1]]), [[2, 0, 0, 1], [0, 3, 0, 1]])

    def test_zero_space_and_whole_space_of_every_width(self):
        for width in range(1, 10):
            whole = unit_rows(width)
            self.assertEqual(space(width, []), [])
            self.assertEqual(space(width, [[0] * width]), [])
            self.assertEqual(space(width, [[0] * width] * 60), [])
            self.assertEqual(space(width, whole[::-1]), whole)
            self.assertEqual(vanishing(width, []), whole)
            self.assertEqual(vanishing(width, whole), [])
            self.assertEqual(joined(whole, []), whole)
            self.assertEqual(joined([], whole), whole)
            self.assertEqual(joined(whole, whole), whole)
            self.assertEqual(common(whole, []), [])
            self.assertEqual(common([], whole), [])
            self.assertEqual(common(whole, whole), whole)
            self.assertEqual(image(whole, whole), whole)
            self.assertEqual(image([], whole), [])
            self.assertIs(in_space([], [0] * width), True)
            self.assertIs(in_space([], [0] * (width - 1) + [-1]), False)
            self.assertIs(in_space(whole, list(range(-3, width - 3))), True)
            self.assertIs(in_space(whole, [0] * width), True)
        self.assertEqual(joined([], []), [])
        self.assertEqual(common([], []), [])

    def test_in_space(self):
        self.assertIs(in_space([[2, 3]], [4, 6]), True)
        self.assertIs(in_space([[2, 3]], [-2, -3]), True)
        self.assertIs(in_space([[2, 3]], [1, 1]), False)
        self.assertIs(in_space([[2, 0, 1], [0, 3, 1]], [1, 0, 0]), False)
        self.assertIs(in_space([[2, 0, 1], [0, 3, 1]], [2, 3, 2]), True)
        # A half and a third of the basis give integers here.
        self.assertIs(in_space([[2, 0, 1, 1], [0, 2, 1, 1]], [1, 1, 1, 1]), True)
        self.assertIs(in_space([[2, 0, 1, 1], [0, 2, 1, 1]], [1, 1, 1, 0]), False)
        self.assertIs(in_space([[0, 1, 0]], [1, 0, 0]), False)
        self.assertIs(in_space([[0, 1, 0]], [0, 0, 1]), False)

    def test_joined_and_common(self):
        self.assertEqual(joined([[1, 1, 0]], [[1, 0, -1]]), [[1, 0, -1], [0, 1, 1]])
        self.assertEqual(joined([[0, 0, 1]], [[1, 0, 0]]), [[1, 0, 0], [0, 0, 1]])
        self.assertEqual(common([[1, 1, 0]], [[1, 0, -1]]), [])
        self.assertEqual(common([[1, 0, 1], [0, 1, 1]], [[1, 0, 2], [0, 1, 3]]), [[2, -1, 1]])
        self.assertEqual(common([[1, 0, 1], [0, 1, 1]], [[1, 0, 1], [0, 1, 1]]), [[1, 0, 1], [0, 1, 1]])

    def test_image(self):
        self.assertEqual(image([[1, 2]], [[3, 4]]), [[1]])
        self.assertEqual(image([[2, -1]], [[1, 2], [2, 4]]), [])
        self.assertEqual(image([[1]], [[0], [-2], [4]]), [[0, 1, -2]])
        self.assertEqual(image([[1, 0, 0], [0, 0, 1]], [[0, 5, 0]] * 9), [])
        self.assertEqual(image([[1] * 9], [[-1] * 9] * 9), [[1] * 9])

    def test_vanishing(self):
        self.assertEqual(vanishing(1, [[1]]), [])
        self.assertEqual(vanishing(2, [[2, 3]]), [[3, -2]])
        self.assertEqual(vanishing(2, [[0, 1]]), [[1, 0]])
        self.assertEqual(vanishing(4, [[1, 0, 2, 0], [0, 1, 3, 0]]), [[2, 3, -1, 0], [0, 0, 0, 1]])
        self.assertEqual(vanishing(3, [[2, 3, 5]]), [[5, 0, -2], [0, 5, -3]])


class SpacesErrorsTest(unittest.TestCase):

    def assert_vector_error(self, index, call, *arguments):
        with self.assertRaises(NoVector) as caught:
            call(*arguments)
        self.assertEqual(caught.exception.index, index)

    def test_width(self):
        for width in NO_WIDTHS:
            with self.subTest(width=width):
                self.assertRaises(NoWidth, space, width, [])
                self.assertRaises(NoWidth, vanishing, width, [])

    def test_vectors(self):
        for vectors in NO_LISTS:
            with self.subTest(vectors=vectors):
                self.assert_vector_error(-1, space, 2, vectors)
        for item in [[], [1], [1, 2, 3], (1, 2), None, True, 7, "12", [1, True], [False, 1], [1, None],
                     [1, "2"], [1, 2.0], [[1, 2]], {0: 1, 1: 2}]:
            with self.subTest(item=item):
                self.assert_vector_error(0, space, 2, [item])
                self.assert_vector_error(0, space, 2, [item, [1, 2], item])
                self.assert_vector_error(2, space, 2, [[1, 2], [3, 4], item, None])
                self.assert_vector_error(59, space, 2, [[0, 0]] * 59 + [item])

    def test_bad_vector_behind_the_whole_space(self):
        self.assert_vector_error(2, space, 2, [[1, 0], [0, 1], [1]])

    def test_single_vector(self):
        for vector in [*NO_LISTS, [], [0] * 10, [1, True], [None, 1], [1.0, 2], ["1", 2]]:
            with self.subTest(vector=vector):
                self.assert_vector_error(0, in_space, [[1, 2]], vector)
                self.assert_vector_error(0, in_space, [], vector)
        for vector in ([1], [1, 2, 3], [0] * 9):
            with self.subTest(vector=vector):
                self.assert_vector_error(0, in_space, [[1, 2]], vector)

    def test_spaces(self):
        for bad in NO_SPACES:
            with self.subTest(bad=bad):
                self.assertRaises(NoSpace, in_space, bad, [0, 0])
                self.assertRaises(NoSpace, joined, bad, [])
                self.assertRaises(NoSpace, joined, [], bad)
                self.assertRaises(NoSpace, common, bad, [])
                self.assertRaises(NoSpace, common, [], bad)
                self.assertRaises(NoSpace, image, bad, [[1, 0]])
                for width in (1, 2, 3):
                    self.assertRaises(NoSpace, vanishing, width, bad)

    def test_widths_that_differ(self):
        for call in (joined, common):
            self.assertRaises(NoSpace, call, [[1, 0]], [[1, 0, 0]])
            self.assertRaises(NoSpace, call, [[1, 0, 0]], [[1, 0]])
            self.assertRaises(NoSpace, call, [[1] * 9], [[1]])
        for width in (1, 3, 9):
            self.assertRaises(NoSpace, vanishing, width, [[1, 0]])

    def test_matrix(self):
        for bad in [*NO_LISTS, [], [[1, 2]] * 10, [[]], [[], []], [[0] * 10], [[1, 2], [1]], [[1], [1, 2]],
                    [[1, 2], (1, 2)], [(1, 2)], [[1, True]], [[1, None]], [[1, 2], None], [None, [1, 2]],
                    [3, [1, 2]], ["12"], [[1, 2.5]]]:
            with self.subTest(bad=bad):
                self.assertRaises(NoMatrix, image, [[1, 2]], bad)
                self.assertRaises(NoMatrix, image, [], bad)
        for rows in ([[1]], [[1, 2, 3]], [[1, 2, 3]] * 2):
            self.assertRaises(NoMatrix, image, [[1, 2]], rows)
            self.assertEqual(image([], rows), [])

    def test_the_first_of_two_errors_is_raised(self):
        self.assertRaises(NoWidth, space, 0, None)
        self.assertRaises(NoWidth, space, True, [[1, 2], None])
        self.assertRaises(NoWidth, vanishing, 10, [[2]])
        self.assertRaises(NoSpace, in_space, [[2]], None)
        self.assertRaises(NoSpace, image, [[0, 0]], None)
        self.assert_vector_error(1, space, 1, [[1], [1, 2], None])


class SpacesLeaveAloneTest(unittest.TestCase):

    def calls(self):
        """Return functions, each with arguments and lists inside that may be changed."""
        one = [[1, 0, 2], [0, 1, 3]]
        other = [[1, 2, 0], [0, 0, 1]]
        return [
            (space, (3, [[2, 4, 6], [0, 0, 0], [1, 2, 4]])),
            (space, (3, one)),
            (in_space, (one, [1, 1, 5])),
            (joined, (one, other)), (joined, (one, [])), (joined, ([], other)), (joined, (one, one)),
            (common, (one, other)), (common, (one, one)), (common, (unit_rows(3), other)),
            (image, (one, unit_rows(3))), (image, (one, [[1, 1, 1]])),
            (vanishing, (3, one)), (vanishing, (3, [])), (vanishing, (1, [])),
        ]

    def test_arguments_stay(self):
        for call, arguments in self.calls():
            before = copy.deepcopy(arguments)
            call(*arguments)
            self.assertEqual(arguments, before)

    def test_arguments_stay_where_an_error_is_raised(self):
        for call, arguments, error in [(space, (2, [[2, 4], [1]]), NoVector), (joined, ([[1, 2]], [[2, 4]]), NoSpace),
                                       (image, ([[1, 2]], [[2, 4], [3]]), NoMatrix)]:
            before = copy.deepcopy(arguments)
            self.assertRaises(error, call, *arguments)
            self.assertEqual(arguments, before)

    def test_what_is_returned_is_new_and_belongs_to_the_caller(self):
        for call, arguments in self.calls():
            first = call(*arguments)
            if first is True:
                continue
            handed_in = [item for value in arguments if isinstance(value, list) for item in [value, *value]]
            lists = [first, *first]
            for at, item in enumerate(lists):
                self.assertFalse(any(item is other for other in handed_in))
                self.assertFalse(any(item is other for other in lists[:at]))
            kept = copy.deepcopy(first)
            before = copy.deepcopy(arguments)
            for row in first:
                row[0] = 99
                row.append(5)
            first.append("more")
            self.assertEqual(arguments, before)
            self.assertEqual(call(*arguments), kept)


if __name__ == "__main__":
    unittest.main()
