"""Listeners: programs of a few controls and cells that hear messages."""

from latecomers.errors import NoListener, NoMessage, NoRule, NoStand, NoWord
from latecomers.values import (
    combined, copied, form_value, is_index, is_integer_from, is_list_of, is_tuple_of_integers, unit_form)

MOST_KINDS = 3
MOST_CONTROLS = 3
MOST_CELLS = 3
MOST_SHOWS = 2
MOST_BURDEN = 2
MOST_FACTOR = 9
MOST_WORD = 12


class Listener:
    """A finite control and a few integer cells, which messages change."""

    def __init__(self, burdens, rules, shows):
        if not are_burdens(burdens):
            raise NoListener("burdens")
        if not are_rules(burdens, rules):
            raise NoListener("rules")
        if not are_shows(len(rules), cells_of(rules), shows):
            raise NoListener("shows")
        self.burdens = list(burdens)
        self.rules = [[(behind, copied(rows)) for behind, rows in of_control] for of_control in rules]
        self.shows = [copied(rows) for rows in shows]

    def __eq__(self, other):
        return (isinstance(other, Listener) and self.burdens == other.burdens
                and self.rules == other.rules and self.shows == other.shows)

    def __getitem__(self, at):
        if not isinstance(at, tuple) or len(at) != 2:
            raise NoRule()
        control, kind = at
        if not is_index(control, len(self.rules)) or not is_index(kind, len(self.burdens)):
            raise NoRule()
        behind, rows = self.rules[control][kind]
        return behind, [list(row) for row in rows]

    def __iter__(self):
        raise TypeError("a listener has no order of its rules")

    def kind_count(self):
        """Return the number of kinds of messages."""
        return len(self.burdens)

    def control_count(self):
        """Return the number of controls."""
        return len(self.rules)

    def cell_count(self):
        """Return the number of cells."""
        return cells_of(self.rules)

    def start(self):
        """Return the stand at which a listener begins."""
        return 0, (0,) * self.cell_count()

    def hear(self, stand, message):
        """Return the stand behind the message."""
        self.check_stand(stand)
        if not is_message(self.burdens, message):
            raise NoMessage(0)
        return self.heard(stand, message)

    def hear_all(self, stand, messages):
        """Return the stand behind all messages, heard one after another."""
        self.check_stand(stand)
        if not isinstance(messages, list):
            raise NoMessage(-1)
        for index, message in enumerate(messages):
            if not is_message(self.burdens, message):
                raise NoMessage(index)
        for message in messages:
            stand = self.heard(stand, message)
        return stand

    def seen(self, stand):
        """Return the values of the shows of the stand's control."""
        self.check_stand(stand)
        control, cells = stand
        return tuple([form_value(show, [1, *cells]) for show in self.shows[control]])

    def word_map(self, control, word):
        """Return the control behind the word and what the word does to the cells."""
        if not is_index(control, self.control_count()):
            raise NoRule()
        if not is_word(self.kind_count(), word):
            raise NoWord()
        burdens = [self.burdens[kind] for kind in word]
        first = 1 + self.cell_count()
        width = first + sum(burdens)
        rows = [unit_form(width, at) for at in range(1, first)]
        for kind, burden in zip(word, burdens):
            numbers = [unit_form(width, first + at) for at in range(burden)]
            control, effect = self.rules[control][kind]
            before = [unit_form(width, 0)] + rows + numbers
            rows = [combined(row, before) for row in effect]
            first += burden
        return control, rows

    def heard(self, stand, message):
        """Return the stand behind the message; both are known to be good."""
        control, cells = stand
        kind, numbers = message
        behind, rows = self.rules[control][kind]
        vector = [1, *cells, *numbers]
        return behind, tuple([form_value(row, vector) for row in rows])

    def check_stand(self, stand):
        """Raise NoStand if this is not a stand of the listener."""
        if not is_stand(self.control_count(), self.cell_count(), stand):
            raise NoStand()


def cells_of(rules):
    """Return the number of cells for which the first of the rules has rows."""
    behind, rows = rules[0][0]
    return len(rows)


def is_stand(controls, cells, value):
    """Tell whether the value is a stand with one of so many controls and so many cells."""
    if not isinstance(value, tuple) or len(value) != 2:
        return False
    return is_index(value[0], controls) and is_tuple_of_integers(value[1], cells)


def is_message(burdens, value):
    """Tell whether the value is a message of a kind with its burden."""
    if not isinstance(value, tuple) or len(value) != 2 or not is_index(value[0], len(burdens)):
        return False
    return is_tuple_of_integers(value[1], burdens[value[0]])


def are_messages(burdens, value):
    """Tell whether the value is a list of messages."""
    return isinstance(value, list) and all([is_message(burdens, item) for item in value])


def is_word(kinds, value):
    """Tell whether the value is a list of 0 to 12 kinds."""
    if not isinstance(value, list) or len(value) > MOST_WORD:
        return False
    return all([is_index(kind, kinds) for kind in value])


def are_burdens(value):
    """Tell whether the value has a burden for each of 1 to 3 kinds."""
    if not isinstance(value, list) or not 1 <= len(value) <= MOST_KINDS:
        return False
    return all([is_integer_from(burden, 0, MOST_BURDEN) for burden in value])


def are_rules(burdens, value):
    """Tell whether the value has, for 1 to 3 controls, a rule for each kind."""
    if not isinstance(value, list) or not 1 <= len(value) <= MOST_CONTROLS:
        return False
    for of_control in value:
        if not is_list_of(of_control, len(burdens)):
            return False
        if not all([is_rule(len(value), rule) for rule in of_control]):
            return False
    cells = cells_of(value)
    return all([are_rule_rows(burdens, cells, of_control) for of_control in value])


def is_rule(controls, value):
    """Tell whether the value is a control and a list for 1 to 3 cells."""
    if not isinstance(value, tuple) or len(value) != 2 or not is_index(value[0], controls):
        return False
    return isinstance(value[1], list) and 1 <= len(value[1]) <= MOST_CELLS


def are_rule_rows(burdens, cells, of_control):
    """Tell whether each rule of a control has, for so many cells, rows for its kind."""
    for burden, (behind, rows) in zip(burdens, of_control):
        if len(rows) != cells or not are_rows(1 + cells + burden, rows):
            return False
    return True


def are_shows(controls, cells, value):
    """Tell whether the value has, for each control, 0 to 2 rows over the cells."""
    if not is_list_of(value, controls):
        return False
    for rows in value:
        if not isinstance(rows, list) or len(rows) > MOST_SHOWS or not are_rows(1 + cells, rows):
            return False
    return True


def are_rows(length, rows):
    """Tell whether each of the rows is a list of so many integers from -9 to 9."""
    return all([is_row(length, row) for row in rows])


def is_row(length, value):
    """Tell whether the value is a list of so many integers from -9 to 9."""
    if not is_list_of(value, length):
        return False
    return all([is_integer_from(entry, -MOST_FACTOR, MOST_FACTOR) for entry in value])
