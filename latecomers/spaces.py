"""Spaces, written as their canonical bases, and what is computed of them."""

from latecomers.divisors import pivot_of, vector_divisor
from latecomers.errors import NoMatrix, NoSpace, NoVector, NoWidth
from latecomers.spans import basis_span, span_of, vanishing_basis
from latecomers.values import ascends, form_value, is_integer_from, is_vector

MOST_WIDTH = 9


def space(width, vectors):
    """Return the smallest space that contains the vectors."""
    check_width(width)
    if not isinstance(vectors, list):
        raise NoVector(-1)
    for index, vector in enumerate(vectors):
        if not is_vector(vector, width):
            raise NoVector(index)
    return span_of(width, vectors).basis()


def in_space(space, vector):
    """Tell whether the vector is in the space."""
    check_space(space)
    if not is_any_vector(vector) or not fits(space, len(vector)):
        raise NoVector(0)
    return basis_span(len(vector), space).has(vector)


def joined(one, other):
    """Return the smallest space in which both spaces lie."""
    width = common_width(one, other)
    # To take a vector costs much more than to begin with it.
    many, few = (one, other) if len(one) >= len(other) else (other, one)
    span = basis_span(width, many)
    for vector in few:
        span.take(vector)
    return span.basis()


def common(one, other):
    """Return the space of the vectors that are in both spaces."""
    width = common_width(one, other)
    # What lies in both is what all forms of the one and of the other vanish on,
    # and a form vanishes on a vector as the vector, as a form, does on the form.
    return vanishing_basis(width, basis_span(width, one).forms() + basis_span(width, other).forms())


def image(space, matrix):
    """Return the space of all vectors into which the matrix turns those of the space."""
    check_space(space)
    if not is_matrix(matrix) or not fits(space, len(matrix[0])):
        raise NoMatrix()
    turned = [[form_value(row, vector) for row in matrix] for vector in space]
    return span_of(len(matrix), turned).basis()


def vanishing(width, space):
    """Return the space of all forms of the width that vanish on the space."""
    check_width(width)
    check_space(space)
    if not fits(space, width):
        raise NoSpace()
    return vanishing_basis(width, space)


def check_width(width):
    """Raise NoWidth if this is not the width of a space."""
    if not is_integer_from(width, 1, MOST_WIDTH):
        raise NoWidth()


def check_space(basis):
    """Raise NoSpace if this is not the canonical basis of a space of any width."""
    if not is_space(basis):
        raise NoSpace()


def common_width(one, other):
    """Return a width that both spaces have, or raise NoSpace."""
    check_space(one)
    check_space(other)
    if one and not fits(other, len(one[0])):
        raise NoSpace()
    # Between two zero spaces the answer is the same for every width.
    return len((one + other)[0]) if one or other else 1


def fits(basis, width):
    """Tell whether the space has this width; the space [] has every width."""
    return not basis or len(basis[0]) == width


def is_any_vector(value):
    """Tell whether the value is a vector of some width."""
    return isinstance(value, list) and 1 <= len(value) <= MOST_WIDTH and is_vector(value, len(value))


def are_vectors(value):
    """Tell whether the value is a list of vectors of one width, perhaps an empty one."""
    if not isinstance(value, list) or not all([is_any_vector(item) for item in value]):
        return False
    return all([len(item) == len(value[0]) for item in value])


def is_matrix(value):
    """Tell whether the value is a list of 1 to 9 vectors of one width."""
    return are_vectors(value) and 1 <= len(value) <= MOST_WIDTH


def is_space(value):
    """Tell whether the value is the canonical basis of a space."""
    if not are_vectors(value):
        return False
    pivots = [pivot_of(vector) for vector in value]
    if -1 in pivots or not ascends(pivots):
        return False
    for pivot, vector in zip(pivots, value):
        if vector[pivot] < 0 or [row[pivot] for row in value].count(0) != len(value) - 1:
            return False
    return all([vector_divisor(vector) == 1 for vector in value])
