"""What the document says of chasers, computed slowly and from the parts alone.

The parts of a chaser are its burdens, its rules and its speeches.
"""

from drawing import heard
from independent import value
from reference import World, as_dict, behind_all, ends, list_fault, listed, start_of
from slow_forms import closed_fault, first_not_vanishing, least_forms, shortest, start_table


def spoken(chaser, stand):
    control, cells = stand
    return [(kind, tuple(value(row, [1, *cells]) for row in rows)) for kind, rows in chaser[2][control]]


def late_stand(parts, chaser, stand):
    """Return where what the chaser speaks at the stand brings a late listener."""
    return behind_all(parts, start_of(parts), spoken(chaser, stand))


def chase_world(ways, parts, chaser):
    return World(ways, parts, (chaser[0], chaser[1], None))


def late_forms(parts, chaser, control):
    """Return the control of the late one, and its cells as forms in [1, cells of the chaser..], by trying stands."""
    many = len(chaser[1][0][0][1])
    behind, base = late_stand(parts, chaser, (control, (0,) * many))
    columns = [base]
    for at in range(many):
        other, cells = late_stand(parts, chaser, (control, tuple(int(at == one) for one in range(many))))
        assert other == behind
        columns.append([cell - zero for cell, zero in zip(cells, base)])
    return behind, [list(row) for row in zip(*columns)]


def chase_forms(ways, parts, chaser, alike):
    """Return, for each key, the forms that must be 0 there."""
    world = chase_world(ways, parts, chaser)
    own, other = world.cells
    wanted = least_forms(ways, parts) if alike else None
    forms = {}
    for state, control, speaker in world.keys():
        behind, late = late_forms(parts, chaser, speaker)
        late = [[row[0]] + [0] * own + row[1:] for row in late]
        units = [[int(at == one) for at in range(world.width)] for one in range(1 + own)]
        if alike:
            forms[state, control, speaker] = [
                [sum(factor * row[at] for factor, row in zip(form, units + late)) for at in range(world.width)]
                for form in wanted[state, control, behind]]
        elif behind != control:
            forms[state, control, speaker] = [units[0]]
        else:
            forms[state, control, speaker] = [
                [x - y for x, y in zip(unit, row)] for unit, row in zip(units[1:], late)]
    return forms


def brought(ways, parts, chaser, alike):
    """Return the word and the least table, or ("run", the least number of messages)."""
    world, forms = chase_world(ways, parts, chaser), chase_forms(ways, parts, chaser, alike)
    table = world.least_table()
    if first_not_vanishing(table, forms) is None:
        return "alike" if alike else "level", listed(table)
    return "run", shortest(world, start_table(world), forms)


def chase_fault(ways, parts, chaser, thing, alike):
    fault = closed_fault(chase_world(ways, parts, chaser), thing)
    if fault:
        return fault
    key = first_not_vanishing(as_dict(thing), chase_forms(ways, parts, chaser, alike))
    return ("speech", *key) if key else None


def stands_behind(parts, chaser, messages):
    """Return the stands of the listener and of the late one behind the list."""
    one, speaker = start_of(parts), start_of(chaser)
    for message in messages:
        one, speaker = heard(parts, one, message), heard(chaser, speaker, message)
    return one, late_stand(parts, chaser, speaker)


def chase_run_fault(ways, parts, chaser, thing, alike):
    fault = list_fault(ways, parts, 0, thing)
    if fault:
        return fault
    one, late = stands_behind(parts, chaser, thing)
    if not alike:
        return ("kept",) if one == late else None
    wanted = least_forms(ways, parts)
    for state in ends(ways, 0, thing):
        if any(value(form, [1, *one[1], *late[1]]) for form in wanted[state, one[0], late[0]]):
            return None
    return ("kept",)
