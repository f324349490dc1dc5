"""Listeners and senders as texts."""

from latecomers.errors import NoText
from latecomers.listeners import (
    MOST_CELLS, MOST_CONTROLS, MOST_FACTOR, MOST_KINDS, MOST_SHOWS, Listener, are_burdens, is_row)
from latecomers.senders import MOST_STATES, Sender
from latecomers.values import ascends, is_index, is_integer_from


class Lines:
    """The lines of a text, taken one after another.

    Each line is checked as soon as it is taken. So the line at which a reader
    stops is the first one that no text begins with, or the one that is missing.
    """

    def __init__(self, text):
        if not isinstance(text, str):
            raise NoText(-1)
        self.lines = text.split("\n")
        self.taken = 0
        # No number in a text has more than one digit. To look words up, instead of reading
        # them as integers, refuses all other ways to write a number.
        self.known = {str(number): number for number in range(-MOST_FACTOR, MOST_FACTOR + 1)}

    def has_more(self):
        """Tell whether there is a line that is not taken yet."""
        return self.taken < len(self.lines)

    def take(self, head):
        """Take the next line, which is to be this word and numbers; return the numbers."""
        if not self.has_more():
            raise NoText(self.taken)
        first, *words = self.lines[self.taken].split(" ")
        numbers = [self.known.get(word) for word in words]
        if first != head or None in numbers:
            raise NoText(self.taken)
        self.taken += 1
        return numbers

    def demand(self, fits):
        """Raise NoText for the line that was taken last unless it fits."""
        if not fits:
            raise NoText(self.taken - 1)


def listener_text(listener):
    """Return the text of the listener."""
    lines = ["listener", line_of("burdens", listener.burdens), line_of("controls", [listener.control_count()]),
             line_of("cells", [listener.cell_count()])]
    for control, of_control in enumerate(listener.rules):
        for kind, (behind, rows) in enumerate(of_control):
            lines.append(line_of("rule", [control, kind, behind]))
            lines += [line_of("row", row) for row in rows]
    for control, shows in enumerate(listener.shows):
        lines += [line_of("show", [control] + show) for show in shows]
    return "\n".join(lines)


def sender_text(sender):
    """Return the text of the sender."""
    lines = ["sender", line_of("states", [sender.state_count()])]
    for state in range(sender.state_count()):
        lines += [line_of("way", [state, kind, behind]) for kind, behind in sender.ways(state)]
    return "\n".join(lines)


def read_listener(text):
    """Return the listener whose text it is."""
    lines = Lines(text)
    lines.demand(lines.take("listener") == [])
    burdens = lines.take("burdens")
    lines.demand(are_burdens(burdens))
    controls = taken_count(lines, "controls", MOST_CONTROLS)
    cells = taken_count(lines, "cells", MOST_CELLS)
    rules = []
    for control in range(controls):
        of_control = []
        for kind, burden in enumerate(burdens):
            behind = taken_next(lines, controls, control, kind)
            of_control.append((behind, taken_rows(lines, cells, 1 + cells + burden)))
        rules.append(of_control)
    return Listener(burdens, rules, taken_shows(lines, controls, cells))


def read_sender(text):
    """Return the sender whose text it is."""
    lines = Lines(text)
    lines.demand(lines.take("sender") == [])
    ways = [[] for state in range(taken_count(lines, "states", MOST_STATES))]
    while lines.has_more():
        numbers = lines.take("way")
        lines.demand(may_follow(ways, numbers))
        state, kind, behind = numbers
        ways[state].append((kind, behind))
    if [] in ways:
        raise NoText(lines.taken)
    return Sender(ways)


def line_of(head, numbers):
    """Return the line that consists of this word and the numbers."""
    return " ".join([head] + [str(number) for number in numbers])


def taken_count(lines, head, most):
    """Take a line with one number from 1 to most, and return the number."""
    numbers = lines.take(head)
    lines.demand(len(numbers) == 1 and is_integer_from(numbers[0], 1, most))
    return numbers[0]


def taken_next(lines, controls, control, kind):
    """Take the first line of the rule of this control and kind, and return the control behind."""
    numbers = lines.take("rule")
    lines.demand(len(numbers) == 3 and numbers[:2] == [control, kind] and is_index(numbers[2], controls))
    return numbers[2]


def taken_rows(lines, cells, length):
    """Take a row of this length for each of so many cells, and return the rows."""
    rows = []
    for cell in range(cells):
        row = lines.take("row")
        lines.demand(is_row(length, row))
        rows.append(row)
    return rows


def taken_shows(lines, controls, cells):
    """Take all lines that are left as shows, and return the shows of each control."""
    shows = [[] for control in range(controls)]
    least = 0
    while lines.has_more():
        numbers = lines.take("show")
        lines.demand(numbers != [] and least <= numbers[0] < controls and is_row(1 + cells, numbers[1:]))
        least = numbers[0]
        shows[least].append(numbers[1:])
        lines.demand(len(shows[least]) <= MOST_SHOWS)
    return shows


def may_follow(ways, numbers):
    """Tell whether the way of these numbers may be the next one behind the ways of each state."""
    if len(numbers) != 3:
        return False
    state, kind, behind = numbers
    if not is_index(state, len(ways)) or not is_index(kind, MOST_KINDS) or not is_index(behind, len(ways)):
        return False
    if [] in ways[:state] or not all([later == [] for later in ways[state + 1:]]):
        return False
    return ascends(ways[state] + [(kind, behind)])
