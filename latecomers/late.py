"""Latecomers: what a late copy of a listener has in common with the one that heard everything."""

from latecomers.claims import check_joint_claims, first_broken
from latecomers.errors import NoCells, NoMany
from latecomers.fading import Fading
from latecomers.senders import check_fit
from latecomers.spaces import vanishing
from latecomers.tables import Hearers, handed_out
from latecomers.values import ascends, form_value, is_index, is_integer_from, unit_form, vanishes

MOST_MANY = 200


def entries(listener, sender):
    """Return the table of the pairs of stands at which a late one can join."""
    check_fit(listener, sender)
    return handed_out(Fading(listener, sender).bases(0))


def after(listener, sender, many):
    """Return the table of the pairs of stands behind exactly that many messages after an entry."""
    check_fit(listener, sender)
    check_many(many)
    return handed_out(Fading(listener, sender).bases(many))


def level(listener, sender, cells, *, controls=True):
    """Return the joint claims that these cells are equal, and perhaps the controls."""
    check_fit(listener, sender)
    count = listener.cell_count()
    if not are_cells(count, cells):
        raise NoCells()
    hearers = Hearers(sender, [listener, listener])
    claims = {}
    for key in hearers.all_keys():
        state, control, other = key
        if controls and control != other:
            claims[key] = [unit_form(hearers.width, 0)]
        else:
            claims[key] = [difference(count, cell) for cell in cells]
    return claims


def when_sure(listener, sender, claims):
    """Return ("from", k, tables) if the claims hold from k messages on, or ("never", table)."""
    check_fit(listener, sender)
    check_joint_claims(Hearers(sender, [listener, listener]), claims)
    fading = Fading(listener, sender)
    least = first_sure(fading, claims)
    if least is None:
        return "never", handed_out(fading.last_bases())
    return "from", least, [handed_out(fading.bases(many)) for many in range(least + 1)]


def late_run(listener, sender, claims, many):
    """Return a run before, a stand and that many messages, behind which a claim is broken, or None."""
    check_fit(listener, sender)
    check_joint_claims(Hearers(sender, [listener, listener]), claims)
    check_many(many)
    fading = Fading(listener, sender)
    broken = first_broken(claims, fading.bases(many))
    if broken is None:
        return None
    key, index = broken
    form = claims[key][index]
    messages = []
    for behind in reversed(range(many)):
        key, form, message = step_back(fading, behind, key, form)
        messages.append(message)
    before, stand = entry_not_zero(fading, key, form)
    return before, stand, messages[::-1]


def sure_cells(listener, sender):
    """Return, for each cell, from how many messages on it is level, or None if it never is."""
    check_fit(listener, sender)
    fading = Fading(listener, sender)
    return [first_sure(fading, level(listener, sender, [cell], controls=False))
            for cell in range(listener.cell_count())]


def last_claims(listener, sender):
    """Return, for each key, the forms that vanish there behind all great enough numbers of messages."""
    check_fit(listener, sender)
    fading = Fading(listener, sender)
    bases = fading.last_bases()
    return {key: vanishing(fading.hearers.width, bases.get(key, [])) for key in fading.hearers.all_keys()}


def check_many(many):
    """Raise NoMany if this is not a number of messages."""
    if not is_integer_from(many, 0, MOST_MANY):
        raise NoMany()


def are_cells(count, value):
    """Tell whether the value is an ascending list of cells, each at most once."""
    return isinstance(value, list) and all([is_index(cell, count) for cell in value]) and ascends(value)


def difference(count, cell):
    """Return the form whose value is the cell of the one minus the same cell of the late one."""
    form = [0] * (1 + 2 * count)
    form[1 + cell] = 1
    form[1 + count + cell] = -1
    return form


def first_sure(fading, claims):
    """Return from how many messages on all claims hold, or None if they never do."""
    many = 0
    while first_broken(claims, fading.bases(many)) is not None:
        if fading.is_last(many):
            return None
        many += 1
    return many


def step_back(fading, many, key, form):
    """Return a key, a form and a message that lead from that many messages to one more.

    The form handed in does not vanish at its key behind one message more. The
    one returned does not vanish at its own key behind that many messages, and
    wherever it is not 0, the one handed in is not 0 behind the message.
    """
    bases = fading.bases(many)
    for before, kind, effect in fading.hearers.ways_to(key, bases):
        pulled = effect.pulled(form)
        if not vanishes(pulled, bases[before]):
            return before, pulled, (kind, effect.numbers(-1))
        for index, carried in enumerate(effect.carried):
            # The pulled form is 0 at every pair here, so this integer alone decides.
            if form_value(form, carried) != 0:
                return before, unit_form(len(form), 0), (kind, effect.numbers(index))


def entry_not_zero(fading, key, form):
    """Return a run and a stand of the late one behind it that are an entry at the key where the form is not 0."""
    state, control, other = key
    count = fading.many_cells
    choices = [(0,) * count] + [tuple(unit_form(count, cell)) for cell in range(count)]
    for at, find in enumerate(fading.search.finds):
        if find.key == (state, control):
            for cells in choices:
                if form_value(form, [*find.vector, *cells]) != 0:
                    return fading.search.run(at), (other, cells)
