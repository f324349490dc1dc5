"""What always holds of a listener: the stands that are reached, and claims about them."""

from latecomers.claims import check_claims, claims_by_key, first_broken
from latecomers.listeners import is_message
from latecomers.search import Search
from latecomers.senders import check_fit, first_unlet
from latecomers.spans import basis_span
from latecomers.tables import Hearers, bases_of, first_open, is_table
from latecomers.values import form_value, unit_form


def reach(listener, sender):
    """Return the least closed table with the stands behind all let lists of messages."""
    check_fit(listener, sender)
    return Search(Hearers(sender, [listener])).table()


def settle(listener, sender, claims):
    """Return ("sure", reach) if the claims always hold, or ("run", messages) behind which one is broken."""
    check_fit(listener, sender)
    check_claims(listener, claims)
    hearers = Hearers(sender, [listener])
    search = Search(hearers)
    at = search.first_not_zero(claims_by_key(hearers, claims))
    if at is None:
        return "sure", search.table()
    return "run", search.run(at)


def table_fault(listener, sender, claims, thing):
    """Return the first fault of the thing as a table that shows that the claims hold, or None."""
    check_fit(listener, sender)
    check_claims(listener, claims)
    hearers = Hearers(sender, [listener])
    if not is_table(hearers, thing):
        return ("form",)
    bases = bases_of(thing)
    if (0, 0) not in bases or not basis_span(hearers.width, bases[0, 0]).has(unit_form(hearers.width, 0)):
        return ("start",)
    way = first_open(hearers, bases)
    if way is not None:
        return ("closed", *way)
    broken = first_broken(claims_by_key(hearers, claims), bases)
    if broken is not None:
        key, index = broken
        return ("claim", *key, index)
    return None


def run_fault(listener, sender, claims, thing):
    """Return the first fault of the thing as a run that breaks a claim, or None."""
    check_fit(listener, sender)
    check_claims(listener, claims)
    if not isinstance(thing, list) or not all([is_message(listener.burdens, item) for item in thing]):
        return ("form",)
    index = first_unlet(sender, 0, thing)
    if index is not None:
        return "way", index
    control, cells = listener.hear_all(listener.start(), thing)
    if all([form_value(form, [1, *cells]) == 0 for form in claims[control]]):
        return ("kept",)
    return None
