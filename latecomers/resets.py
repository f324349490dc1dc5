"""Words of kinds that bring all stands of a listener together."""

from latecomers.errors import NoMany
from latecomers.listeners import is_word
from latecomers.senders import check_fit
from latecomers.values import is_integer_from

MOST_SEARCHED = 5


def reset_word(listener, sender, most):
    """Return a shortest reset word of at most so many kinds that is let from some state, or None."""
    check_fit(listener, sender)
    if not is_integer_from(most, 0, MOST_SEARCHED):
        raise NoMany()
    words = [[]]
    for length in range(most):
        words = [[*word, kind] for word in words for kind in range(listener.kind_count())]
        words = [word for word in words if is_let(sender, word)]
        for word in words:
            if first_apart(listener, word) is None:
                return word
    return None


def reset_fault(listener, sender, thing):
    """Return the first fault of the thing as a reset word that is let from some state, or None."""
    check_fit(listener, sender)
    if not is_word(listener.kind_count(), thing):
        return ("form",)
    if not is_let(sender, thing):
        return ("let",)
    return first_apart(listener, thing)


def is_let(sender, word):
    """Tell whether the word is let from some state of the sender."""
    return sender.followed(list(range(sender.state_count())), word) != []


def first_apart(listener, word):
    """Return the first pair of controls whose stands the word does not bring together, with what stays apart."""
    effects = [listener.word_map(control, word) for control in range(listener.control_count())]
    cells = listener.cell_count()
    for p in range(len(effects)):
        for q in range(p, len(effects)):
            control, rows = effects[p]
            other, other_rows = effects[q]
            if control != other:
                return "control", p, q
            for cell in range(cells):
                if not are_together(cells, rows[cell], other_rows[cell]):
                    return "cell", p, q, cell
    return None


def are_together(cells, row, other):
    """Tell whether the rows have equal values, whatever is in so many cells of the one stand and of the other."""
    return row == other and row[1:1 + cells] == [0] * cells
