"""A span: a space that grows vector by vector.

Its rows are those of the reduced echelon form, multiplied by one common
scale, the least positive one that makes all of them integers. So each row has
the scale at its own pivot and 0 at the pivots of the others. Scale and rows
depend on the space alone, up to the order of the rows: however the vectors
come, the numbers stay as small as the space permits.
"""

from latecomers.divisors import divisor, pivot_of, primitive


class Span:
    """The smallest space that contains the vectors taken so far."""

    def __init__(self, width):
        self.width = width
        self.scale = 1
        self.pivots = []
        self.rows = []

    def free(self):
        """Return the indexes that are not pivots, ascending."""
        return [at for at in range(self.width) if at not in self.pivots]

    def reduced(self, vector):
        """Return scale * vector less the combination of rows that clears the pivots."""
        rest = [0] * self.width
        for at in self.free():
            rest[at] = self.scale * vector[at] - sum(
                [vector[pivot] * row[at] for pivot, row in zip(self.pivots, self.rows)])
        return rest

    def has(self, vector):
        """Tell whether the vector is in the space."""
        return pivot_of(self.reduced(vector)) == -1

    def take(self, vector):
        """Let the space grow so that it contains the vector; tell whether it grew."""
        rest = self.reduced(vector)
        pivot = pivot_of(rest)
        if pivot == -1:
            return False
        rest = primitive(rest)
        rows = [cleared(row, rest, pivot) for row in self.rows]
        # All rows are now multiples of their common divisor with the scale;
        # to divide by it at once keeps the scale the least one.
        common = self.scale
        for row in rows:
            for entry in row:
                common = divisor(entry, common)
        factor = self.scale // common
        self.rows = [[entry // common for entry in row] for row in rows]
        self.rows.append([factor * entry for entry in rest])
        self.scale = factor * rest[pivot]
        self.pivots.append(pivot)
        return True

    def basis(self):
        """Return the canonical basis of the space."""
        order = sorted(range(len(self.pivots)), key=lambda at: self.pivots[at])
        return [primitive(self.rows[at]) for at in order]

    def forms(self):
        """Return forms, one for each free index, whose combinations are all that vanish."""
        return [self.form_at(at) for at in self.free()]

    def form_at(self, index):
        """Return the vanishing form that is the scale here and 0 at all other free indexes."""
        form = [0] * self.width
        form[index] = self.scale
        for pivot, row in zip(self.pivots, self.rows):
            form[pivot] = -row[index]
        return form


def cleared(row, rest, pivot):
    """Return a multiple of the row less a multiple of rest, so that the pivot is 0."""
    return [rest[pivot] * entry - row[pivot] * less for entry, less in zip(row, rest)]


def span_of(width, vectors):
    """Return the span of vectors of this width."""
    span = Span(width)
    for vector in vectors:
        span.take(vector)
    return span


def vanishing_basis(width, vectors):
    """Return the canonical basis of the forms that vanish on all of the vectors.

    A vanishing form of a span has other entries only at pivots before its free
    index. Seen from the other end, that index is where the form begins.
    """
    span = span_of(width, [vector[::-1] for vector in vectors])
    return [primitive(form[::-1]) for form in span.forms()[::-1]]


def basis_span(width, basis):
    """Return the span of a canonical basis; its rows need no elimination."""
    pivots = [pivot_of(row) for row in basis]
    leads = [row[pivot] for pivot, row in zip(pivots, basis)]
    scale = 1
    for lead in leads:
        scale = scale // divisor(scale, lead) * lead
    span = Span(width)
    span.scale = scale
    span.pivots = pivots
    span.rows = [[scale // lead * entry for entry in row] for lead, row in zip(leads, basis)]
    return span
