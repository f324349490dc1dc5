"""Two listeners that look alike for a sender."""

from latecomers.claims import first_broken
from latecomers.search import search_from_start
from latecomers.senders import check_fit, check_like, list_fault
from latecomers.shown import show_forms
from latecomers.tables import Hearers, bases_of, closed_fault


def alike_listeners(one, other, sender):
    """Return ("alike", table) if the two always see the same, or ("run", messages) behind which they do not."""
    check_pair(one, other, sender)
    hearers = Hearers(sender, [one, other])
    search = search_from_start(hearers)
    at = search.first_not_zero(show_forms(hearers, one, other))
    if at is None:
        return "alike", search.table()
    return "run", search.run(at)


def pair_fault(one, other, sender, thing):
    """Return the first fault of the thing as a table that shows the two alike, or None."""
    check_pair(one, other, sender)
    hearers = Hearers(sender, [one, other])
    fault = closed_fault(hearers, thing)
    if fault is not None:
        return fault
    broken = first_broken(show_forms(hearers, one, other), bases_of(thing))
    if broken is not None:
        key, index = broken
        return ("shows", *key)
    return None


def pair_run_fault(one, other, sender, thing):
    """Return the first fault of the thing as a run behind which the two see unlike tuples, or None."""
    check_pair(one, other, sender)
    fault = list_fault(one, sender, 0, thing)
    if fault is not None:
        return fault
    if one.seen(one.hear_all(one.start(), thing)) == other.seen(other.hear_all(other.start(), thing)):
        return ("kept",)
    return None


def check_pair(one, other, sender):
    """Raise Unlike unless the two have equal burdens and all kinds of the sender."""
    check_like(one, other)
    check_fit(one, sender)
