"""Keys, images and tables of one or two listeners that hear what a sender emits.

Inside of the package a table is a dict: for each key that occurs, vectors that
are a basis of its space. What is handed out is a list of tuples.
"""

from latecomers.listeners import cells_of
from latecomers.spaces import is_space
from latecomers.spans import basis_span
from latecomers.values import ascends, combined, copied, form_value, is_index, unit_form


class Effect:
    """What one rule of each listener does to the vector of their stands."""

    def __init__(self, rules):
        parts = [rows for behind, rows in rules]
        self.controls = tuple([behind for behind, rows in rules])
        self.matrix = joint_matrix(parts)
        self.carried = carried_vectors(parts)

    def moved(self, vector):
        """Return the vector behind a message whose integers are 0."""
        return [form_value(row, vector) for row in self.matrix]

    def pulled(self, form):
        """Return the form that has on each vector the value of this form on the moved vector."""
        return combined(form, self.matrix)

    def image(self, vectors):
        """Return vectors whose combinations are the image of the combinations of these."""
        return [self.moved(vector) for vector in vectors] + self.carried

    def numbers(self, index):
        """Return the integers of a message that are 1 at this index and 0 elsewhere; -1 is no index."""
        return tuple(unit_form(len(self.carried), index))


class Hearers:
    """One or two listeners that hear the same messages of one sender.

    For each key there are its steps, one for each way: the kind, the key
    behind and the effect of a message of this kind.
    """

    def __init__(self, sender, listeners):
        self.controls = [len(listener.rules) for listener in listeners]
        self.states = sender.state_count()
        self.width = 1 + sum([cells_of(listener.rules) for listener in listeners])
        self.steps = {}
        for stances in joint_indexes(self.controls):
            pairs = [listener.rules[control] for listener, control in zip(listeners, stances)]
            effects = [Effect(rules) for rules in zip(*pairs)]
            for state in range(self.states):
                key = (state, *stances)
                self.steps[key] = steps_along(sender.ways(state), effects)

    def all_keys(self):
        """Return all keys, ascending, whether or not they can occur."""
        return sorted(self.steps)

    def ways_to(self, key, bases):
        """Return the ways that lead to the key from a key of the table: the key before, the kind, the effect."""
        return [(before, kind, effect) for before in bases
                for kind, behind, effect in self.steps[before] if behind == key]


def steps_along(ways, effects):
    """Return the kind, the key behind and the effect along each of the ways; there is an effect for each kind."""
    steps = []
    for kind, after in ways:
        effect = effects[kind]
        steps.append((kind, (after, *effect.controls), effect))
    return steps


def joint_indexes(lengths):
    """Return all tuples of one index for each of the lengths, ascending."""
    tuples = [()]
    for length in lengths:
        tuples = [(*some, index) for some in tuples for index in range(length)]
    return tuples


def joint_matrix(parts):
    """Return the matrix that does to [1, cells..] what the rows of all listeners do without the integers carried."""
    width = 1 + sum([len(rows) for rows in parts])
    matrix = [unit_form(width, 0)]
    for rows in parts:
        first, behind = len(matrix), len(matrix) + len(rows)
        for row in rows:
            line = [0] * width
            line[0] = row[0]
            line[first:behind] = row[1:1 + len(rows)]
            matrix.append(line)
    return matrix


def carried_vectors(parts):
    """Return, for each integer that a message carries, what the integer 1 adds to the vector of the stands."""
    tails = [row[1 + len(rows):] for rows in parts for row in rows]
    return [[0, *column] for column in zip(*tails)]


def spans_of(hearers, bases):
    """Return, for each key of the table, the span of its space."""
    return {key: basis_span(hearers.width, bases[key]) for key in bases}


def first_outside(hearers, bases, spans):
    """Return the first key and its first way along which the image is not in these spans, or None.

    It is the tuple of the key, followed by the kind and the next state of the way.
    """
    for key in sorted(bases):
        for kind, behind, effect in hearers.steps[key]:
            if behind not in spans or not lie_in(spans[behind], effect.image(bases[key])):
                return (*key, kind, behind[0])
    return None


def closed_fault(hearers, thing):
    """Return the first fault of the thing as a closed table that contains the start, or None."""
    if not is_table(hearers, thing):
        return ("form",)
    bases = bases_of(thing)
    spans = spans_of(hearers, bases)
    first_key = hearers.all_keys()[0]
    if first_key not in spans or not spans[first_key].has(unit_form(hearers.width, 0)):
        return ("start",)
    way = first_outside(hearers, bases, spans)
    if way is not None:
        return ("closed", *way)
    return None


def lie_in(span, vectors):
    """Tell whether each of the vectors is in the span."""
    for vector in vectors:
        if not span.has(vector):
            return False
    return True


def handed_out(bases):
    """Return the table of these canonical bases as a new list of tuples."""
    return [(*key, copied(bases[key])) for key in sorted(bases)]


def bases_of(table):
    """Return the spaces of a table that was handed in, by their keys."""
    return {item[:-1]: item[-1] for item in table}


def has_all_keys(hearers, value):
    """Tell whether the value is a dict with exactly all keys."""
    known = hearers.all_keys()
    return isinstance(value, dict) and len(value) == len(known) and all([key in value for key in known])


def is_table(hearers, value):
    """Tell whether the value is a table with the keys and the width of the hearers."""
    if not isinstance(value, list) or not all([is_table_item(hearers, item) for item in value]):
        return False
    return ascends([item[:-1] for item in value])


def is_table_item(hearers, value):
    """Tell whether the value is a key, followed by a space that holds the vector of some stands."""
    lengths = [hearers.states, *hearers.controls]
    if not isinstance(value, tuple) or len(value) != len(lengths) + 1:
        return False
    if not all([is_index(index, length) for index, length in zip(value, lengths)]):
        return False
    return is_stand_space(hearers.width, value[-1])


def is_stand_space(width, value):
    """Tell whether the value is a space of the width with a vector whose first entry is not 0."""
    # The pivots of a basis ascend, so only its first vector can have one at index 0.
    return is_space(value) and value != [] and len(value[0]) == width and value[0][0] != 0
