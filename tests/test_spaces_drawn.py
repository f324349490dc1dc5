"""Spaces on drawn inputs, beside elimination over fractions, and on great ones."""

import random
import time
import unittest

import independent
from latecomers.spaces import common, image, in_space, joined, space, vanishing


def drawn_vectors(draw, width):
    """Return a few vectors, often with fewer directions than vectors."""
    many = draw.randint(0, width + 2)
    most = draw.choice([1, 2, 9, 10 ** 6, 10 ** 60])
    if draw.random() < 0.5:
        return [[draw.randint(-most, most) for _ in range(width)] for _ in range(many)]
    seeds = [[draw.randint(-most, most) for _ in range(width)] for _ in range(draw.randint(1, width))]
    vectors = []
    for _ in range(many):
        factors = [draw.randint(-3, 3) for _ in seeds]
        vectors.append([sum(x * seed[at] for x, seed in zip(factors, seeds)) for at in range(width)])
    return vectors


def great(draw, digits=2000):
    return draw.choice([1, -1]) * draw.randrange(10 ** (digits - 1), 10 ** digits)


def great_vectors(draw, width, many):
    return [[great(draw) for _ in range(width)] for _ in range(many)]


class DrawnSpacesTest(unittest.TestCase):

    def setUp(self):
        self.draw = random.Random(20)

    def cases(self, many):
        for _ in range(many):
            width = self.draw.randint(1, 9)
            yield width, drawn_vectors(self.draw, width), drawn_vectors(self.draw, width)

    def test_the_basis_is_canonical_and_spans_what_was_handed_in(self):
        for width, vectors, _ in self.cases(600):
            basis = space(width, vectors)
            self.assertIsNone(independent.fault_of_form(width, basis))
            self.assertEqual(basis, independent.canonical(vectors))
            self.assertEqual(len(basis), independent.rank(vectors))
            self.assertEqual(independent.rank(basis + vectors), len(basis))
            for vector in vectors:
                self.assertIs(in_space(basis, vector), True)

    def test_the_basis_does_not_depend_on_order_or_factors(self):
        for width, vectors, _ in self.cases(300):
            basis = space(width, vectors)
            self.draw.shuffle(vectors)
            factor = self.draw.choice([-7, -1, 2, 10 ** 30])
            self.assertEqual(space(width, [[factor * entry for entry in vector] for vector in vectors]), basis)
            self.assertEqual(space(width, basis), basis)
            self.assertEqual(space(width, vectors + basis[::-1]), basis)

    def test_in_space(self):
        for width, vectors, others in self.cases(400):
            basis = space(width, vectors)
            for vector in others:
                inside = independent.rank(basis + [vector]) == len(basis)
                self.assertIs(in_space(basis, vector), inside)

    def test_joined_and_common(self):
        for width, vectors, others in self.cases(400):
            one, other = space(width, vectors), space(width, others)
            both, shared = joined(one, other), common(one, other)
            self.assertEqual(both, independent.canonical(one + other))
            self.assertEqual(shared, independent.common(width, one, other))
            self.assertEqual(len(both) + len(shared), len(one) + len(other))
            self.assertEqual((joined(other, one), common(other, one)), (both, shared))
            for vector in one + other:
                self.assertIs(in_space(both, vector), True)
            for vector in shared:
                self.assertTrue(in_space(one, vector) and in_space(other, vector))

    def test_common_of_spaces_that_share_directions(self):
        for width, vectors, others in self.cases(300):
            cut = self.draw.randint(0, len(vectors))
            one, other = space(width, vectors), space(width, others + vectors[:cut])
            shared = common(one, other)
            self.assertEqual(shared, independent.common(width, one, other))
            self.assertEqual(len(joined(one, other)) + len(shared), len(one) + len(other))

    def test_image(self):
        for width, vectors, _ in self.cases(400):
            basis = space(width, vectors)
            rows = self.draw.randint(1, 9)
            most = self.draw.choice([1, 3, 10 ** 60])
            matrix = [[self.draw.randint(-most, most) for _ in range(width)] for _ in range(rows)]
            found = image(basis, matrix)
            self.assertEqual(found, independent.canonical([independent.turned(matrix, row) for row in basis]))
            self.assertIsNone(independent.fault_of_form(rows, found))
            for vector in vectors:
                self.assertIs(in_space(found, independent.turned(matrix, vector)), True)

    def test_vanishing(self):
        for width, vectors, others in self.cases(400):
            basis = space(width, vectors)
            forms = vanishing(width, basis)
            self.assertEqual(forms, independent.vanishing(width, basis))
            self.assertIsNone(independent.fault_of_form(width, forms))
            self.assertEqual(len(forms), width - len(basis))
            self.assertEqual(vanishing(width, forms), basis)
            for form in forms:
                self.assertEqual([independent.value(form, vector) for vector in vectors], [0] * len(vectors))
            other = space(width, others)
            self.assertEqual(vanishing(width, joined(basis, other)), common(forms, vanishing(width, other)))
            self.assertEqual(vanishing(width, common(basis, other)), joined(forms, vanishing(width, other)))

    def test_what_is_no_canonical_basis_is_refused(self):
        from latecomers.errors import NoSpace
        refused = 0
        for _ in range(3000):
            width = self.draw.randint(1, 4)
            rows = [[self.draw.randint(-2, 2) for _ in range(width)] for _ in range(self.draw.randint(0, 3))]
            if independent.fault_of_form(width, rows) is None:
                self.assertEqual(space(width, rows), rows)
                self.assertEqual(joined(rows, []), rows)
            else:
                refused += 1
                self.assertRaises(NoSpace, joined, rows, [])
        self.assertGreater(refused, 1000)


class GreatSpacesTest(unittest.TestCase):
    """Entries of 2000 digits. assertTrue, since a failure must not print them."""

    def setUp(self):
        self.draw = random.Random(30)
        self.began = time.monotonic()

    def tearDown(self):
        self.assertLess(time.monotonic() - self.began, 120)

    def test_sixty_vectors_of_the_whole_space(self):
        found = space(9, great_vectors(self.draw, 9, 60))
        self.assertEqual(found, [[int(at == row) for at in range(9)] for row in range(9)])

    def test_sixty_vectors_of_each_dimension(self):
        for dimension in (1, 4, 8):
            seeds = great_vectors(self.draw, 9, dimension)
            vectors = [seeds[at % dimension] for at in range(60)]
            basis = space(9, vectors)
            self.assertEqual(len(basis), dimension)
            self.assertIsNone(independent.fault_of_form(9, basis))
            self.assertTrue(all(in_space(basis, vector) for vector in seeds))
            self.assertFalse(in_space(basis, [great(self.draw) for _ in range(9)]))
            forms = vanishing(9, basis)
            self.assertEqual(len(forms), 9 - dimension)
            self.assertIsNone(independent.fault_of_form(9, forms))
            self.assertTrue(all(independent.value(form, row) == 0 for form in forms for row in seeds))
            self.assertTrue(vanishing(9, forms) == basis)

    def test_one_cell_and_great_factors(self):
        factor = great(self.draw)
        self.assertEqual(space(1, [[factor]]), [[1]])
        self.assertEqual(space(3, [[2 * factor, -4 * factor, 0], [0, 0, factor]]), [[1, -2, 0], [0, 0, 1]])
        self.assertTrue(in_space([[1, -2, 0]], [factor, -2 * factor, 0]))
        self.assertFalse(in_space([[1, -2, 0]], [factor, -2 * factor, 1]))

    def test_joined_and_common_of_what_was_returned(self):
        for dimension, other_dimension in ((2, 3), (5, 5), (4, 7)):
            one = space(9, great_vectors(self.draw, 9, dimension))
            other = space(9, great_vectors(self.draw, 9, other_dimension))
            both, shared = joined(one, other), common(one, other)
            self.assertEqual(len(both), min(9, dimension + other_dimension))
            self.assertEqual(len(both) + len(shared), len(one) + len(other))
            for vector in shared:
                self.assertTrue(in_space(one, vector) and in_space(other, vector))
            self.assertTrue(common(both, one) == one)
            self.assertTrue(joined(shared, other) == other)

    def test_a_space_of_great_entries_handed_in(self):
        # Pivots that have nothing in common, so that their multiple is long.
        basis = [[0] * 9 for _ in range(8)]
        for at, row in enumerate(basis):
            row[at] = abs(great(self.draw)) * 2 + at * 2 + 1
            row[8] = row[at] - 2 ** at
        other = space(9, basis[:5])
        self.assertTrue(joined(basis, []) == basis)
        self.assertTrue(joined(basis, other) == basis)
        self.assertTrue(common(basis, other) == other)
        self.assertEqual(len(vanishing(9, basis)), 1)
        self.assertTrue(in_space(basis, [sum(row[at] for row in basis) for at in range(9)]))

    def test_image_of_great_entries(self):
        basis = space(9, great_vectors(self.draw, 9, 4))
        matrix = great_vectors(self.draw, 9, 9)
        found = image(basis, matrix)
        self.assertEqual(len(found), 4)
        self.assertIsNone(independent.fault_of_form(9, found))
        self.assertTrue(all(in_space(found, independent.turned(matrix, row)) for row in basis))


if __name__ == "__main__":
    unittest.main()
