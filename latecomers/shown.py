"""The forms that vanish exactly where two listeners see the same."""

from latecomers.values import unit_form


def show_forms(hearers, one, other):
    """Return, for each key of the two listeners, forms that are 0 exactly where they see equal tuples."""
    forms = {}
    for key in hearers.all_keys():
        state, control, of_other = key
        forms[key] = differences(hearers.width, one.shows[control], other.shows[of_other])
    return forms


def differences(width, shows, others):
    """Return the differences of the shows; tuples of unlike lengths are never equal, so there it is [1, 0, .., 0]."""
    if len(shows) != len(others):
        return [unit_form(width, 0)]
    return [difference(show, other) for show, other in zip(shows, others)]


def difference(show, other):
    """Return the form of the pair whose value is that of the one's show minus that of the other's."""
    return [show[0] - other[0], *show[1:], *[-factor for factor in other[1:]]]
