"""What always holds of a listener: the stands that are reached, and claims about them."""

from latecomers.claims import check_claims, claims_by_key, first_broken
from latecomers.search import search_from_start
from latecomers.senders import check_fit, list_fault
from latecomers.tables import Hearers, bases_of, closed_fault
from latecomers.values import form_value


def reach(listener, sender):
    """Return the least closed table with the stands behind all let lists of messages."""
    check_fit(listener, sender)
    return search_from_start(Hearers(sender, [listener])).table()


def settle(listener, sender, claims):
    """Return ("sure", reach) if the claims always hold, or ("run", messages) behind which one is broken."""
    check_fit(listener, sender)
    check_claims(listener, claims)
    hearers = Hearers(sender, [listener])
    search = search_from_start(hearers)
    at = search.first_not_zero(claims_by_key(hearers, claims))
    if at is None:
        return "sure", search.table()
    return "run", search.run(at)


def table_fault(listener, sender, claims, thing):
    """Return the first fault of the thing as a table that shows that the claims hold, or None."""
    check_fit(listener, sender)
    check_claims(listener, claims)
    hearers = Hearers(sender, [listener])
    fault = closed_fault(hearers, thing)
    if fault is not None:
        return fault
    broken = first_broken(claims_by_key(hearers, claims), bases_of(thing))
    if broken is not None:
        key, index = broken
        return ("claim", *key, index)
    return None


def run_fault(listener, sender, claims, thing):
    """Return the first fault of the thing as a run that breaks a claim, or None."""
    check_fit(listener, sender)
    check_claims(listener, claims)
    fault = list_fault(listener, sender, 0, thing)
    if fault is not None:
        return fault
    control, cells = listener.hear_all(listener.start(), thing)
    if all([form_value(form, [1, *cells]) == 0 for form in claims[control]]):
        return ("kept",)
    return None
