"""Scripts: listeners that are written as statements, executed one after another."""

from latecomers.errors import NoMessage, NoScript, NoStand, TooGreat
from latecomers.listeners import (
    MOST_CELLS, MOST_CONTROLS, Listener, are_burdens, are_rows, are_shows, is_message, is_row, is_stand)
from latecomers.values import combined, copied, form_value, is_index, is_integer_from, is_list_of, unit_form

MOST_STATEMENTS = 6


class Script:
    """A finite control and a few integer cells, with a block of statements for each control and kind."""

    def __init__(self, burdens, cells, blocks, shows):
        if not are_burdens(burdens):
            raise NoScript("burdens")
        if not is_integer_from(cells, 1, MOST_CELLS):
            raise NoScript("cells")
        if not are_blocks(burdens, cells, blocks):
            raise NoScript("blocks")
        if not are_shows(len(blocks), cells, shows):
            raise NoScript("shows")
        self.burdens = list(burdens)
        self.many_cells = cells
        self.blocks = [[copied_block(block) for block in of_control] for of_control in blocks]
        self.shows = [copied(rows) for rows in shows]


def script_hear(script, stand, message):
    """Return the stand behind the message, heard by the script at the stand."""
    if not is_stand(len(script.blocks), script.many_cells, stand):
        raise NoStand()
    if not is_message(script.burdens, message):
        raise NoMessage(0)
    control, cells = stand
    kind, numbers = message
    behind, rows = block_rule(script, control, kind)
    vector = [1, *cells, *numbers]
    return behind, tuple([form_value(row, vector) for row in rows])


def compiled(script):
    """Return the listener that does at every stand what the script does."""
    rules = []
    for control in range(len(script.blocks)):
        of_control = []
        for kind in range(len(script.burdens)):
            behind, rows = block_rule(script, control, kind)
            if not are_rows(len(rows[0]), rows):
                raise TooGreat((control, kind))
            of_control.append((behind, rows))
        rules.append(of_control)
    return Listener(script.burdens, rules, script.shows)


def block_rule(script, control, kind):
    """Return the control behind a block and a row for each cell; the coefficients may be of any size.

    Each row tells what is in the cell behind the block, from the cells before it and the integers carried.
    """
    first_number = 1 + script.many_cells
    width = first_number + script.burdens[kind]
    forms = [unit_form(width, at) for at in range(width)]
    behind = control
    for statement in script.blocks[control][kind]:
        if statement[0] == "go":
            behind = statement[1]
        elif statement[0] == "swap":
            one, other = 1 + statement[1], 1 + statement[2]
            forms[one], forms[other] = forms[other], forms[one]
        else:
            changed = 1 + statement[1]
            value = combined(statement[2], forms)
            if statement[0] == "add":
                value = combined([1, 1], [forms[changed], value])
            forms[changed] = value
    return behind, forms[1:first_number]


def copied_block(block):
    """Return the block as a new list, with new rows in it."""
    return [copied_statement(statement) for statement in block]


def copied_statement(statement):
    """Return the statement with a new row, if it has one."""
    if statement[0] in ("set", "add"):
        return statement[0], statement[1], list(statement[2])
    return statement


def are_blocks(burdens, cells, value):
    """Tell whether the value has, for 1 to 3 controls, a block for each kind."""
    if not isinstance(value, list) or not 1 <= len(value) <= MOST_CONTROLS:
        return False
    for of_control in value:
        if not is_list_of(of_control, len(burdens)):
            return False
        for burden, block in zip(burdens, of_control):
            if not is_block(len(value), cells, burden, block):
                return False
    return True


def is_block(controls, cells, burden, value):
    """Tell whether the value is a list of 0 to 6 statements for messages with this burden."""
    if not isinstance(value, list) or len(value) > MOST_STATEMENTS:
        return False
    return all([is_statement(controls, cells, burden, item) for item in value])


def is_statement(controls, cells, burden, value):
    """Tell whether the value is a statement for so many controls and cells and this burden."""
    if not isinstance(value, tuple) or len(value) not in (2, 3) or not isinstance(value[0], str):
        return False
    if value[0] == "go":
        return len(value) == 2 and is_index(value[1], controls)
    if len(value) != 3 or not is_index(value[1], cells):
        return False
    if value[0] == "swap":
        return is_index(value[2], cells)
    return value[0] in ("set", "add") and is_row(1 + cells + burden, value[2])
