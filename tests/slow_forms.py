"""What the document says of stands and listeners that look alike, computed slowly and from the parts alone."""

from drawing import heard
from independent import canonical, value
from reference import World, lies_in, list_fault, listed, pairs_world, start_of, vanishes


def seen(parts, stand):
    return tuple(value(show, [1, *stand[1]]) for show in parts[2][stand[0]])


def show_differences(one, other, key):
    """Return forms that vanish exactly where the two listeners see equal tuples at the key."""
    shows, others = one[2][key[1]], other[2][key[2]]
    cells, other_cells = len(one[1][0][0][1]), len(other[1][0][0][1])
    if len(shows) != len(others):
        return [[1] + [0] * (cells + other_cells)]
    forms = []
    for show, late in zip(shows, others):
        form = [show[0] - late[0]]
        for entry in show[1:]:
            form.append(entry)
        for entry in late[1:]:
            form.append(-entry)
        forms.append(form)
    return forms


def all_show_differences(world, one, other):
    return {key: show_differences(one, other, key) for key in world.keys()}


def pulled_back(world, key, way, forms):
    """Return what points (b) and (c) of the document ask for along this way, for these forms behind it."""
    kind, width, burden = way[0], world.width, world.burdens[way[0]]
    units = [[int(at == one) for at in range(width)] for one in range(width)]
    wanted = []
    for form in forms:
        wanted.append([value(form, world.turned(key, kind, unit, (0,) * burden)) for unit in units])
        for index in range(burden):
            numbers = tuple(int(at == index) for at in range(burden))
            if value(form, world.turned(key, kind, [0] * width, numbers)):
                wanted.append(units[0])
    return wanted


def closure(world, table):
    """Return the least dict in which the spaces of this one lie and that is closed as (b) and (c) say."""
    while True:
        grown = {}
        for key in world.keys():
            wanted = list(table[key])
            for way in world.ways[key[0]]:
                wanted += pulled_back(world, key, way, table[world.behind(key, way)])
            grown[key] = canonical(wanted)
        if grown == table:
            return table
        table = grown


def least_forms(ways, parts):
    world = pairs_world(ways, parts)
    shown = all_show_differences(world, parts, parts)
    return closure(world, {key: canonical(shown[key]) for key in shown})


def forms_fault(ways, parts, thing):
    world = pairs_world(ways, parts)
    if type(thing) is not dict or sorted(thing) != world.keys():
        return ("form",)
    for basis in thing.values():
        if not world.is_space(basis):
            return ("form",)
    for key in world.keys():
        if not lies_in(show_differences(parts, parts, key), thing[key]):
            return ("shows", *key)
    for key in world.keys():
        for way in world.ways[key[0]]:
            if not lies_in(pulled_back(world, key, way, thing[world.behind(key, way)]), thing[key]):
                return ("closed", *key, *way)
    return None


def shortest(world, table, forms):
    """Return the least number of messages behind which one of the forms of a key is not 0, or None.

    The table behind exactly so many messages is looked at; a form that is 0 behind all runs of fewer messages
    than the keys have vectors is 0 for ever.
    """
    most = world.width * len(world.keys())
    known = []
    for length in range(most + 1):
        if not all(vanishes(form, basis) for key, basis in table.items() for form in forms[key]):
            return length
        if table in known:
            return None
        known.append(table)
        table = world.behind_one_more(table)
    return None


def shortest_part(ways, parts, state, one, other):
    world = pairs_world(ways, parts)
    table = {(state, one[0], other[0]): canonical([[1, *one[1], *other[1]]])}
    return shortest(world, table, all_show_differences(world, parts, parts))


def part_fault(ways, parts, state, one, other, thing):
    fault = list_fault(ways, parts, state, thing)
    if fault:
        return fault
    for message in thing:
        one, other = heard(parts, one, message), heard(parts, other, message)
    return ("kept",) if seen(parts, one) == seen(parts, other) else None


def start_table(world):
    return {(0,) * (1 + len(world.rules)): [[1] + [0] * (world.width - 1)]}


def closed_fault(world, thing):
    """Return the first fault of the thing as a closed table that contains the start, or None."""
    if not world.is_table(thing):
        return ("form",)
    table = {item[:-1]: item[-1] for item in thing}
    first, = start_table(world)
    if first not in table or not lies_in(start_table(world)[first], table[first]):
        return ("start",)
    found = world.open_way(table)
    return ("closed", *found) if found else None


def first_not_vanishing(table, forms):
    for key in sorted(table):
        if not all(vanishes(form, table[key]) for form in forms[key]):
            return key
    return None


def pair_fault(ways, one, other, thing):
    world = World(ways, one, other)
    fault = closed_fault(world, thing)
    if fault:
        return fault
    key = first_not_vanishing({item[:-1]: item[-1] for item in thing}, all_show_differences(world, one, other))
    return ("shows", *key) if key else None


def pair_run_fault(ways, one, other, thing):
    fault = list_fault(ways, one, 0, thing)
    if fault:
        return fault
    stand, late = start_of(one), start_of(other)
    for message in thing:
        stand, late = heard(one, stand, message), heard(other, late, message)
    return ("kept",) if seen(one, stand) == seen(other, late) else None


def alike_listeners(ways, one, other):
    """Return ("alike", table), or ("run", the least number of messages)."""
    world = World(ways, one, other)
    table, forms = world.least_table(), all_show_differences(world, one, other)
    if first_not_vanishing(table, forms) is None:
        return "alike", listed(table)
    return "run", shortest(world, start_table(world), forms)
