"""Questions about plain values: is this an integer, a row, a list of kinds."""


def is_integer(value):
    """Tell whether the value is an int that is not a bool."""
    return isinstance(value, int) and not isinstance(value, bool)


def is_integer_from(value, least, most):
    """Tell whether the value is an integer from least to most."""
    return is_integer(value) and least <= value <= most


def is_index(value, length):
    """Tell whether the value is an index of a list of this length."""
    return is_integer_from(value, 0, length - 1)


def is_list_of(value, length):
    """Tell whether the value is a list of this length."""
    return isinstance(value, list) and len(value) == length


def is_vector(value, width):
    """Tell whether the value is a list of as many integers as the width."""
    return is_list_of(value, width) and all([is_integer(entry) for entry in value])


def is_tuple_of_integers(value, length):
    """Tell whether the value is a tuple of this many integers."""
    return isinstance(value, tuple) and len(value) == length and all([is_integer(entry) for entry in value])


def form_value(form, vector):
    """Return the value of the form on the vector: the sum of the products."""
    return sum([factor * entry for factor, entry in zip(form, vector)])


def ascends(items):
    """Tell whether each of the numbers, or of the tuples of numbers, is greater than the one before it."""
    return all([low < high for low, high in zip(items, items[1:])])


def vanishes(form, vectors):
    """Tell whether the value of the form on each of the vectors is 0."""
    return all([form_value(form, vector) == 0 for vector in vectors])


def unit_form(width, index):
    """Return the form whose value is the entry of a vector at this index."""
    return [1 if at == index else 0 for at in range(width)]


def combined(row, forms):
    """Return the sum of the forms, each of them times its entry of the row."""
    return [form_value(row, column) for column in zip(*forms)]


def copied(rows):
    """Return the rows as a new list of new lists."""
    return [list(row) for row in rows]
