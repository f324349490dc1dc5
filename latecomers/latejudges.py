"""Judges of things about latecomers: tables that show claims sure or never sure, and late runs."""

from latecomers.claims import all_hold, check_joint_claims, first_broken
from latecomers.fading import Fading
from latecomers.late import check_many
from latecomers.listeners import are_messages, is_stand
from latecomers.senders import check_fit, ends, first_unlet
from latecomers.spans import Span
from latecomers.tables import Hearers, bases_of, first_outside, is_table, lie_in, spans_of


def from_fault(listener, sender, claims, k, thing):
    """Return the first fault of the thing as tables that show the claims sure from k messages on, or None."""
    check_fit(listener, sender)
    hearers = Hearers(sender, [listener, listener])
    check_joint_claims(hearers, claims)
    check_many(k)
    if not are_tables(hearers, k + 1, thing):
        return ("form",)
    tables = [bases_of(table) for table in thing]
    if first_not_in(Fading(listener, sender).bases(0), spans_of(hearers, tables[0])) is not None:
        return ("entries",)
    fault = chain_fault(hearers, tables)
    if fault is not None:
        return fault
    for index in range(k, len(tables)):
        if first_broken(claims, tables[index]) is not None:
            return "claim", index
    return None


def never_fault(listener, sender, claims, thing):
    """Return the first fault of the thing as a table that shows the claims never sure, or None."""
    check_fit(listener, sender)
    hearers = Hearers(sender, [listener, listener])
    check_joint_claims(hearers, claims)
    if not is_table(hearers, thing):
        return ("form",)
    bases = bases_of(thing)
    key = first_not_in(bases, spans_of(hearers, Fading(listener, sender).bases(0)))
    if key is not None:
        return ("entries", *key)
    for key in sorted(bases):
        if not lie_in(fed_span(hearers, bases, key), bases[key]):
            return ("fed", *key)
    if first_broken(claims, bases) is None:
        return ("kept",)
    return None


def late_fault(listener, sender, claims, many, thing):
    """Return the first fault of the thing as a run behind whose last messages a claim is broken, or None."""
    check_fit(listener, sender)
    check_joint_claims(Hearers(sender, [listener, listener]), claims)
    check_many(many)
    if not is_late_run(listener, many, thing):
        return ("form",)
    before, late, messages = thing
    whole = before + messages
    index = first_unlet(sender, 0, whole)
    if index is not None and index < len(before):
        return "before", index
    if index is not None:
        return "messages", index - len(before)
    one = listener.hear_all(listener.start(), whole)
    if all_hold(claims, ends(sender, whole), one, listener.hear_all(late, messages)):
        return ("kept",)
    return None


def are_tables(hearers, least, value):
    """Tell whether the value is a list of at least so many tables of the hearers."""
    if not isinstance(value, list) or len(value) < least:
        return False
    return all([is_table(hearers, item) for item in value])


def is_late_run(listener, many, value):
    """Tell whether the value is a list of messages, a stand and a list of that many messages."""
    if not isinstance(value, tuple) or len(value) != 3:
        return False
    before, stand, messages = value
    if not are_messages(listener.burdens, before) or not are_messages(listener.burdens, messages):
        return False
    return len(messages) == many and is_stand(listener.control_count(), listener.cell_count(), stand)


def first_not_in(bases, spans):
    """Return the first key of the table whose space does not lie in the span of this key, or None."""
    for key in sorted(bases):
        if key not in spans or not lie_in(spans[key], bases[key]):
            return key
    return None


def chain_fault(hearers, tables):
    """Return the first fault of tables each of which is to lead into the next, and the last one into itself."""
    last = len(tables) - 1
    for index, bases in enumerate(tables):
        behind = tables[min(index + 1, last)]
        # A table that repeats over and over is looked at only once.
        known = index > 0 and tables[index - 1] == bases == behind
        if not known and first_outside(hearers, bases, spans_of(hearers, behind)) is not None:
            return ("next", index) if index < last else ("closed",)
    return None


def fed_span(hearers, bases, key):
    """Return the span of all images along the ways that lead to the key."""
    span = Span(hearers.width)
    for before, kind, effect in hearers.ways_to(key, bases):
        for vector in effect.image(bases[before]):
            span.take(vector)
    return span
