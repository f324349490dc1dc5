"""Greatest common divisors of integers and of vectors."""

# Bits above which steps on the leading bits are cheaper than those of Euclid.
LONG = 4000

# How many leading bits are looked at, and how many of them are left unused.
BLOCK = 240
UNUSED = 120


def divisor(one, other):
    """Return the greatest common divisor; it is 0 only for two zeros."""
    large = max(abs(one), abs(other))
    small = min(abs(one), abs(other))
    while small.bit_length() > LONG:
        large, small = shorter_pair(large, small)
    while small:
        large, small = small, large % small
    return large


def shorter_pair(large, small):
    """Return a shorter pair with the same greatest common divisor.

    Many steps of Euclid are done on the leading bits alone. What they do to
    the whole numbers has determinant 1 or -1, so it keeps the divisor even
    where the leading bits suggest another step than the whole numbers would.
    """
    shift = large.bit_length() - BLOCK
    a, b, c, d = leading_steps(large >> shift, small >> shift)
    if c == 0:
        return small, large % small
    one = abs(a * large + b * small)
    other = abs(c * large + d * small)
    return max(one, other), min(one, other)


def leading_steps(large, small):
    """Do the steps of Euclid while small is long enough; return their matrix."""
    a, b, c, d = 1, 0, 0, 1
    while small >> UNUSED:
        times = large // small
        large, small = small, large - times * small
        a, c = c, a - times * c
        b, d = d, b - times * d
    return a, b, c, d


def vector_divisor(vector):
    """Return the greatest common divisor of all entries of the vector."""
    common = 0
    for entry in vector:
        if common == 1:
            return 1
        common = divisor(common, entry)
    return common


def primitive(vector):
    """Divide a vector that is not zero by its divisor; make its pivot positive."""
    common = vector_divisor(vector)
    if vector[pivot_of(vector)] < 0:
        common = -common
    return [entry // common for entry in vector]


def pivot_of(vector):
    """Return the index of the first entry that is not 0, or -1 without one."""
    for at, entry in enumerate(vector):
        if entry:
            return at
    return -1
