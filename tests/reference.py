"""What the document says of ways, tables and judges, computed slowly and from the parts alone.

A world is a sender (its ways) and the parts of one or two listeners. A table
is a dict here: a canonical basis for each key that occurs.
"""

import itertools

from drawing import heard
from independent import canonical, fault_of_form, rank, value


class World:

    def __init__(self, ways, *listeners):
        self.ways = ways
        self.burdens = listeners[0][0]
        self.rules = [rules for _, rules, _ in listeners]
        self.cells = [len(rules[0][0][1]) for rules in self.rules]
        self.width = 1 + sum(self.cells)

    def keys(self):
        return list(itertools.product(range(len(self.ways)), *[range(len(rules)) for rules in self.rules]))

    def behind(self, key, way):
        kind, state = way
        return (state, *[rules[control][kind][0] for rules, control in zip(self.rules, key[1:])])

    def image(self, key, kind, vectors):
        """Return vectors that span the image of what these vectors span."""
        burden = self.burdens[kind]
        return [self.turned(key, kind, vector, (0,) * burden) for vector in vectors] + [
            self.turned(key, kind, [0] * self.width, tuple(int(at == one) for at in range(burden)))
            for one in range(burden)]

    def turned(self, key, kind, vector, numbers):
        turned, first = [vector[0]], 1
        for rules, control, cells in zip(self.rules, key[1:], self.cells):
            part = [vector[0], *vector[first:first + cells], *numbers]
            turned += [value(row, part) for row in rules[control][kind][1]]
            first += cells
        return turned

    def all_images(self, table):
        """Return, for each key to which a way leads, the vectors of all images there."""
        images = {}
        for key, basis in table.items():
            for way in self.ways[key[0]]:
                images.setdefault(self.behind(key, way), []).extend(self.image(key, way[0], basis))
        return images

    def least_table(self):
        table = {(0,) * (1 + len(self.rules)): [[1] + [0] * (self.width - 1)]}
        while True:
            grown = dict(table)
            for key, vectors in self.all_images(table).items():
                grown[key] = canonical(table.get(key, []) + vectors)
            if grown == table:
                return table
            table = grown

    def behind_one_more(self, table):
        return {key: canonical(vectors) for key, vectors in self.all_images(table).items()}

    def open_way(self, table):
        """Return the first key with the kind and the next state of its first way that is not closed, or None."""
        for key in sorted(table):
            for way in self.ways[key[0]]:
                behind = self.behind(key, way)
                if behind not in table or not lies_in(self.image(key, way[0], table[key]), table[behind]):
                    return (*key, *way)
        return None

    def is_space(self, basis):
        if type(basis) is not list or any(type(vector) is not list for vector in basis):
            return False
        return not fault_of_form(self.width, basis)

    def is_table(self, thing):
        if type(thing) is not list:
            return False
        for item in thing:
            if type(item) is not tuple or len(item) != 2 + len(self.rules):
                return False
            if any(type(index) is not int for index in item[:-1]) or item[:-1] not in self.keys():
                return False
            if not self.is_space(item[-1]) or not any(vector[0] for vector in item[-1]):
                return False
        found = [item[:-1] for item in thing]
        return found == sorted(set(found))


def closed_greater(draw, world, most=1):
    """Return a closed table that contains the start and may be greater than the least one."""
    table = world.least_table()
    for _ in range(draw.randint(0, 2)):
        key = draw.choice(world.keys())
        vector = [draw.randint(-most, most) for _ in range(world.width)]
        table[key] = canonical(table.get(key, [[1] + [0] * (world.width - 1)]) + [vector])
    while world.open_way(table):
        for key, vectors in world.all_images(table).items():
            table[key] = canonical(table.get(key, []) + vectors)
    return listed(table)


def pairs_world(ways, parts):
    return World(ways, parts, parts)


def lies_in(vectors, basis):
    return rank(basis + vectors) == len(basis)


def vanishes(form, vectors):
    return all(value(form, vector) == 0 for vector in vectors)


def listed(table):
    return [(*key, table[key]) for key in sorted(table)]


def as_dict(table):
    return {item[:-1]: item[-1] for item in table}


def entries(ways, parts):
    cells, controls = len(parts[1][0][0][1]), len(parts[1])
    table = {}
    for key, basis in World(ways, parts).least_table().items():
        for other in range(controls):
            table[(*key, other)] = canonical(
                [vector + [0] * cells for vector in basis]
                + [[int(at == one) for at in range(1 + 2 * cells)] for one in range(1 + cells, 1 + 2 * cells)])
    return table


def tables_of(ways, parts):
    """Return the tables behind 0, 1, .. messages up to the first that is as the one before it."""
    world = pairs_world(ways, parts)
    tables = [entries(ways, parts)]
    while len(tables) < 2 or tables[-1] != tables[-2]:
        tables.append(world.behind_one_more(tables[-1]))
    return tables


def all_hold(claims, table):
    return all(vanishes(form, basis) for key, basis in table.items() for form in claims[key])


def paths(ways, state, word):
    """Return the states at which the word can end, by trying all ways one after another."""
    ends = []
    for path in itertools.product(range(len(ways)), repeat=len(word)):
        at, steps = state, []
        for kind, behind in zip(word, path):
            steps.append((kind, behind) in ways[at])
            at = behind
        if all(steps):
            ends.append(at)
    return sorted(set(ends))


def ends(ways, state, messages):
    """Return the states at which a list of messages ends; there are none if it is not let from the state."""
    states = {state}
    for kind, _ in messages:
        states = {behind for at in states for emitted, behind in ways[at] if emitted == kind}
    return sorted(states)


def first_unlet(ways, state, messages):
    for index in range(len(messages)):
        if not ends(ways, state, messages[:index + 1]):
            return index
    return None


def table_fault(ways, parts, claims, thing):
    world = World(ways, parts)
    if not world.is_table(thing):
        return ("form",)
    table = as_dict(thing)
    start = [1] + [0] * (world.width - 1)
    if (0, 0) not in table or not lies_in([start], table[0, 0]):
        return ("start",)
    found = world.open_way(table)
    if found:
        return ("closed", *found)
    for state, control in sorted(table):
        for index, form in enumerate(claims[control]):
            if not vanishes(form, table[state, control]):
                return ("claim", state, control, index)
    return None


def table_in(table, other):
    return all(key in other and lies_in(basis, other[key]) for key, basis in table.items())


def from_fault(ways, parts, claims, k, thing):
    world = pairs_world(ways, parts)
    if type(thing) is not list or len(thing) < k + 1 or not all(world.is_table(item) for item in thing):
        return ("form",)
    tables = [as_dict(item) for item in thing]
    if not table_in(entries(ways, parts), tables[0]):
        return ("entries",)
    for index in range(len(tables) - 1):
        if not table_in(world.behind_one_more(tables[index]), tables[index + 1]):
            return ("next", index)
    if not table_in(world.behind_one_more(tables[-1]), tables[-1]):
        return ("closed",)
    for index in range(k, len(tables)):
        if not all_hold(claims, tables[index]):
            return ("claim", index)
    return None


def never_fault(ways, parts, claims, thing):
    world = pairs_world(ways, parts)
    if not world.is_table(thing):
        return ("form",)
    table, joining = as_dict(thing), entries(ways, parts)
    for key in sorted(table):
        if key not in joining or not lies_in(table[key], joining[key]):
            return ("entries", *key)
    fed = world.behind_one_more(table)
    for key in sorted(table):
        if not lies_in(table[key], fed.get(key, [])):
            return ("fed", *key)
    return ("kept",) if all_hold(claims, table) else None


def is_stand(parts, value):
    if type(value) is not tuple or len(value) != 2 or type(value[0]) is not int or type(value[1]) is not tuple:
        return False
    cells = len(parts[1][0][0][1])
    return value[0] in range(len(parts[1])) and len(value[1]) == cells and all(type(cell) is int for cell in value[1])


def behind_all(parts, stand, messages):
    for message in messages:
        stand = heard(parts, stand, message)
    return stand


def start_of(parts):
    return 0, (0,) * len(parts[1][0][0][1])


def late_fault(ways, parts, claims, many, thing):
    """Return the first fault of the thing as a run behind whose last messages a claim is broken, or None."""
    if type(thing) is not tuple or len(thing) != 3:
        return ("form",)
    before, stand, messages = thing
    if not are_messages(parts, before) or not are_messages(parts, messages):
        return ("form",)
    if not is_stand(parts, stand) or len(messages) != many:
        return ("form",)
    index = first_unlet(ways, 0, before)
    if index is not None:
        return ("before", index)
    index = first_unlet(ways, 0, before + messages)
    if index is not None:
        return ("messages", index - len(before))
    one = behind_all(parts, start_of(parts), before + messages)
    late = behind_all(parts, stand, messages)
    vector = [1, *one[1], *late[1]]
    for state in ends(ways, 0, before + messages):
        if any(value(form, vector) for form in claims[state, one[0], late[0]]):
            return None
    return ("kept",)


def are_messages(parts, thing):
    return type(thing) is list and all(is_message(parts, item) for item in thing)


def is_message(parts, message):
    if type(message) is not tuple or len(message) != 2:
        return False
    kind, numbers = message
    if type(kind) is not int or kind not in range(len(parts[0])) or type(numbers) is not tuple:
        return False
    return len(numbers) == parts[0][kind] and all(type(number) is int for number in numbers)


def list_fault(ways, parts, state, thing):
    """Return the first fault of the thing as a list of messages that is let from the state, or None."""
    if not are_messages(parts, thing):
        return ("form",)
    index = first_unlet(ways, state, thing)
    return None if index is None else ("way", index)
