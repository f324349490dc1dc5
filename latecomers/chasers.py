"""Chasers: they hear everything, and speak a few messages that bring a late listener level."""

from latecomers.alike import forms_table
from latecomers.claims import all_hold, first_broken
from latecomers.errors import NoChaser
from latecomers.late import level
from latecomers.listeners import Listener, are_burdens, are_rows, are_rules, cells_of
from latecomers.search import search_from_start
from latecomers.senders import check_fit, check_like, ends, list_fault
from latecomers.tables import Hearers, bases_of, closed_fault
from latecomers.values import combined, copied, form_value, is_index, is_list_of, unit_form

MOST_SPOKEN = 4


class Chaser:
    """A control and cells that messages change, as those of a listener, and a speech for each control."""

    def __init__(self, burdens, rules, speeches):
        if not are_burdens(burdens):
            raise NoChaser("burdens")
        if not are_rules(burdens, rules):
            raise NoChaser("rules")
        if not are_speeches(burdens, len(rules), cells_of(rules), speeches):
            raise NoChaser("speeches")
        self.burdens = list(burdens)
        self.hearer = Listener(burdens, rules, [[] for of_control in rules])
        self.speeches = [[(kind, copied(rows)) for kind, rows in speech] for speech in speeches]

    def start(self):
        """Return the stand at which a chaser begins."""
        return self.hearer.start()

    def hear(self, stand, message):
        """Return the stand behind the message."""
        return self.hearer.hear(stand, message)

    def spoken(self, stand):
        """Return the messages that the chaser speaks at the stand."""
        self.hearer.check_stand(stand)
        control, cells = stand
        vector = [1, *cells]
        return [(kind, tuple([form_value(row, vector) for row in rows])) for kind, rows in self.speeches[control]]


def brings_level(listener, sender, chaser):
    """Return ("level", table) if the chaser always brings a late one level, or ("run", messages) without success."""
    check_chase(listener, sender, chaser)
    return brought(listener, sender, chaser, "level")


def brings_alike(listener, sender, chaser):
    """Return ("alike", table) if the chaser always brings a late one alike, or ("run", messages) without success."""
    check_chase(listener, sender, chaser)
    return brought(listener, sender, chaser, "alike")


def chase_fault(listener, sender, chaser, thing, *, alike=False):
    """Return the first fault of the thing as a table that shows that the chaser brings a late one level, or None."""
    check_chase(listener, sender, chaser)
    hearers = Hearers(sender, [listener, chaser.hearer])
    fault = closed_fault(hearers, thing)
    if fault is not None:
        return fault
    forms = chased_forms(hearers, listener, chaser, wanted_forms(listener, sender, alike))
    broken = first_broken(forms, bases_of(thing))
    if broken is not None:
        key, index = broken
        return ("speech", *key)
    return None


def chase_run_fault(listener, sender, chaser, thing, *, alike=False):
    """Return the first fault of the thing as a run behind which a late one is not brought level, or None."""
    check_chase(listener, sender, chaser)
    fault = list_fault(listener, sender, 0, thing)
    if fault is not None:
        return fault
    one = listener.hear_all(listener.start(), thing)
    speech = chaser.spoken(chaser.hearer.hear_all(chaser.start(), thing))
    late = listener.hear_all(listener.start(), speech)
    if all_hold(wanted_forms(listener, sender, alike), ends(sender, thing), one, late):
        return ("kept",)
    return None


def check_chase(listener, sender, chaser):
    """Raise Unlike unless the three fit each other."""
    check_fit(listener, sender)
    check_like(listener, chaser)


def brought(listener, sender, chaser, word):
    """Return the word and the least table if what it says always is so, or a shortest run behind which it is not."""
    hearers = Hearers(sender, [listener, chaser.hearer])
    search = search_from_start(hearers)
    forms = chased_forms(hearers, listener, chaser, wanted_forms(listener, sender, word == "alike"))
    at = search.first_not_zero(forms)
    if at is None:
        return word, search.table()
    return "run", search.run(at)


def wanted_forms(listener, sender, alike):
    """Return, for each key of the listener and a late one, the forms that are to be 0 at their stands."""
    if alike:
        return forms_table(listener, sender)
    return level(listener, sender, list(range(listener.cell_count())))


def chased_forms(hearers, listener, chaser, wanted):
    """Return the wanted forms as forms of the listener's and the chaser's cells, for each key of these two."""
    effects = [speech_effect(listener, chaser, control) for control in range(len(chaser.speeches))]
    forms = {}
    for key in hearers.all_keys():
        state, control, other = key
        late_control, matrix = effects[other]
        forms[key] = [combined(form, matrix) for form in wanted[state, control, late_control]]
    return forms


def speech_effect(listener, chaser, control):
    """Return where a speech brings a late one: its control, and the matrix for the vector of listener and late one.

    The matrix turns the vector of the listener and the chaser into it.
    """
    own = listener.cell_count()
    width = 1 + own + chaser.hearer.cell_count()
    behind = 0
    cells = [[0] * width for cell in range(own)]
    for kind, rows in chaser.speeches[control]:
        spoken = [[row[0]] + [0] * own + row[1:] for row in rows]
        before = [unit_form(width, 0)] + cells + spoken
        behind, effect = listener.rules[behind][kind]
        cells = [combined(row, before) for row in effect]
    return behind, [unit_form(width, at) for at in range(1 + own)] + cells


def are_speeches(burdens, controls, cells, value):
    """Tell whether the value has a speech for each of so many controls."""
    if not is_list_of(value, controls):
        return False
    return all([is_speech(burdens, cells, speech) for speech in value])


def is_speech(burdens, cells, value):
    """Tell whether the value is a list of what is spoken with so many cells."""
    if not isinstance(value, list) or len(value) > MOST_SPOKEN:
        return False
    return all([is_spoken(burdens, cells, item) for item in value])


def is_spoken(burdens, cells, value):
    """Tell whether the value is a kind and, for each integer that it carries, a row over so many cells."""
    if not isinstance(value, tuple) or len(value) != 2 or not is_index(value[0], len(burdens)):
        return False
    return is_list_of(value[1], burdens[value[0]]) and are_rows(1 + cells, value[1])
