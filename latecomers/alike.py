"""Stands of one listener that look alike for ever."""

from latecomers.search import Search
from latecomers.senders import check_fit, list_fault
from latecomers.shown import show_forms
from latecomers.spaces import fits, is_space
from latecomers.spans import Span
from latecomers.tables import Hearers, has_all_keys, lie_in, spans_of
from latecomers.values import unit_form, vanishes


def parted(listener, sender, state, one, other):
    """Return a shortest list of messages behind which the two stands see unlike tuples, or None."""
    check_stands(listener, sender, state, one, other)
    hearers = Hearers(sender, [listener, listener])
    search = Search(hearers, (state, one[0], other[0]), [1, *one[1], *other[1]])
    at = search.first_not_zero(show_forms(hearers, listener, listener))
    return None if at is None else search.run(at)


def part_fault(listener, sender, state, one, other, thing):
    """Return the first fault of the thing as messages behind which the two stands see unlike tuples, or None."""
    check_stands(listener, sender, state, one, other)
    fault = list_fault(listener, sender, state, thing)
    if fault is not None:
        return fault
    if listener.seen(listener.hear_all(one, thing)) == listener.seen(listener.hear_all(other, thing)):
        return ("kept",)
    return None


def forms_table(listener, sender):
    """Return, for each key, the space of the forms that vanish exactly on the pairs of stands that are alike."""
    check_fit(listener, sender)
    hearers = Hearers(sender, [listener, listener])
    spans = {key: Span(hearers.width) for key in hearers.all_keys()}
    shown = show_forms(hearers, listener, listener)
    offered = [(key, form) for key in shown for form in shown[key]]
    at = 0
    while at < len(offered):
        key, form = offered[at]
        if spans[key].take(form):
            for before, kind, effect in hearers.ways_to(key, spans):
                offered += [(before, pulled) for pulled in all_pulled(effect, [form])]
        at += 1
    return {key: spans[key].basis() for key in spans}


def forms_fault(listener, sender, thing):
    """Return the first fault of the thing as a dict of forms that holds all shows and is closed, or None."""
    check_fit(listener, sender)
    hearers = Hearers(sender, [listener, listener])
    if not is_forms_dict(hearers, thing):
        return ("form",)
    spans = spans_of(hearers, thing)
    shown = show_forms(hearers, listener, listener)
    for key in hearers.all_keys():
        if not lie_in(spans[key], shown[key]):
            return ("shows", *key)
    for key in hearers.all_keys():
        for kind, behind, effect in hearers.steps[key]:
            if not lie_in(spans[key], all_pulled(effect, thing[behind])):
                return ("closed", *key, kind, behind[0])
    return None


def check_stands(listener, sender, state, one, other):
    """Raise the error that is due unless this is a state of the sender and two stands of the listener."""
    check_fit(listener, sender)
    sender.check_state(state)
    listener.check_stand(one)
    listener.check_stand(other)


def is_forms_dict(hearers, value):
    """Tell whether the value is a dict that has, for exactly all keys, a space of forms."""
    if not has_all_keys(hearers, value):
        return False
    return all([is_space(value[key]) and fits(value[key], hearers.width) for key in value])


def all_pulled(effect, forms):
    """Return forms that vanish at a pair exactly if these vanish behind all messages with the effect."""
    pulled = [effect.pulled(form) for form in forms]
    if not all([vanishes(form, effect.carried) for form in forms]):
        # Some integer that a message carries makes a form other than 0, wherever the pair is.
        pulled.append(unit_form(len(effect.matrix), 0))
    return pulled
