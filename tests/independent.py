"""Spaces by another way than the package's: elimination over fractions."""

import math
from fractions import Fraction


def echelon(vectors):
    """Return the rows of the reduced echelon form, as fractions, each with 1 at its pivot."""
    rows = [[Fraction(entry) for entry in vector] for vector in vectors]
    done = []
    width = len(rows[0]) if rows else 0
    for column in range(width):
        chosen = next((row for row in rows if row[column]), None)
        if chosen is None:
            continue
        rows = [row for row in rows if row is not chosen]
        chosen = [entry / chosen[column] for entry in chosen]
        rows = [less(row, row[column], chosen) for row in rows]
        done = [less(row, row[column], chosen) for row in done]
        done.append(chosen)
    return done


def less(row, factor, other):
    """Return the row less the factor times the other one."""
    return [x - factor * y if y else x for x, y in zip(row, other)] if factor else row


def canonical(vectors):
    """Return the canonical basis of the smallest space that contains the vectors."""
    basis = []
    for row in echelon(vectors):
        times = math.lcm(*[entry.denominator for entry in row])
        whole = [int(entry * times) for entry in row]
        common = math.gcd(*whole)
        basis.append([entry // common for entry in whole])
    return basis


def rank(vectors):
    return len(echelon(vectors))


def value(form, vector):
    return sum(x * y for x, y in zip(form, vector))


def turned(matrix, vector):
    return [value(row, vector) for row in matrix]


def null_vectors(width, vectors):
    """Return fractions: a basis of what all of the vectors, as forms, vanish on."""
    rows = echelon(vectors)
    pivots = [next(at for at in range(width) if row[at]) for row in rows]
    found = []
    for free in range(width):
        if free not in pivots:
            vector = [Fraction(int(at == free)) for at in range(width)]
            for pivot, row in zip(pivots, rows):
                vector[pivot] = -row[free]
            found.append(vector)
    return found


def whole(vector):
    """Return a multiple of a vector of fractions that is a vector of integers."""
    times = math.lcm(*[entry.denominator for entry in vector])
    return [int(entry * times) for entry in vector]


def vanishing(width, basis):
    return canonical([whole(vector) for vector in null_vectors(width, basis)])


def common(width, one, other):
    """Return the canonical basis of what is in both, from the combinations that meet."""
    columns = one + [[-entry for entry in vector] for vector in other]
    if not columns:
        return []
    meeting = null_vectors(len(columns), [list(row) for row in zip(*columns)])
    both = []
    for factors in meeting:
        vector = [Fraction(0)] * width
        for factor, row in zip(factors, one):
            vector = [x + factor * y for x, y in zip(vector, row)]
        both.append(whole(vector))
    return canonical(both)


def fault_of_form(width, basis):
    """Return a word for what keeps this from being a canonical basis, or None."""
    pivots = []
    for vector in basis:
        if len(vector) != width or not all(type(entry) is int for entry in vector):
            return "vector"
        filled = [at for at in range(width) if vector[at]]
        if not filled or vector[filled[0]] < 0:
            return "pivot"
        if math.gcd(*vector) != 1:
            return "divisor"
        pivots.append(filled[0])
    if pivots != sorted(set(pivots)):
        return "order"
    for at, pivot in enumerate(pivots):
        if any(vector[pivot] for index, vector in enumerate(basis) if index != at):
            return "cleared"
    return None
