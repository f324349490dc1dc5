"""Drawn inputs, and what one message does, from the document alone."""

import copy

from independent import canonical


def drawn_parts(draw):
    """Return burdens, rules and shows of a listener."""
    kinds, controls, cells = draw.randint(1, 3), draw.randint(1, 3), draw.randint(1, 3)
    most = draw.choice([1, 2, 9])

    def row(length):
        return [draw.randint(-most, most) for _ in range(length)]

    burdens = [draw.randint(0, 2) for _ in range(kinds)]
    rules = [[(draw.randrange(controls), [row(1 + cells + burden) for _ in range(cells)]) for burden in burdens]
             for _ in range(controls)]
    shows = [[row(1 + cells) for _ in range(draw.randint(0, 2))] for _ in range(controls)]
    return burdens, rules, shows


def drawn_stand(draw, parts):
    _, rules, _ = parts
    cells = tuple(draw.randint(-10 ** 60 + 1, 10 ** 60 - 1) for _ in rules[0][0][1])
    return draw.randrange(len(rules)), cells


def drawn_message(draw, burdens, kind):
    most = draw.choice([1, 10 ** 60 - 1])
    return kind, tuple(draw.randint(-most, most) for _ in range(burdens[kind]))


def heard(parts, stand, message):
    """Do what the document says of one message, from the parts alone."""
    (control, cells), (kind, numbers) = stand, message
    behind, rows = parts[1][control][kind]
    after = []
    for constant, *factors in rows:
        after.append(constant + sum(x * y for x, y in zip(factors, cells + numbers, strict=True)))
    return behind, tuple(after)


def plain_row(draw, cells, burden, at):
    """Return a row that keeps, copies, sets, adds or mixes a little."""
    row = [0] * (1 + cells + burden)
    choice = draw.randrange(7)
    if choice < 2:
        row[1 + at] = 1
    elif choice == 2:
        row[1 + draw.randrange(cells)] = 1
    elif choice == 3:
        row[0] = draw.choice([0, 0, 1, -2])
    elif choice == 4 and burden:
        row[1 + cells + draw.randrange(burden)] = draw.choice([1, 1, -1, 3])
    elif choice == 5 and burden:
        row[1 + at] = 1
        row[1 + cells + draw.randrange(burden)] = 1
    else:
        row = [draw.choice([0, 0, 1, -1, 2]) for _ in row]
    return row


def plain_parts(draw, controls=None, burdens=None):
    """Return burdens, rules and shows of a listener in which some cells are right from some message on."""
    if burdens is None:
        burdens = [draw.choice([0, 0, 1, 1, 2]) for _ in range(draw.randint(1, 3))]
    controls = controls or draw.choice([1, 2, 2, 3])
    cells = draw.randint(1, 3)
    rules = [[(draw.randrange(controls), [plain_row(draw, cells, burden, at) for at in range(cells)])
              for burden in burdens] for _ in range(controls)]
    return burdens, rules, [[] for _ in range(controls)]


def drawn_ways(draw, kinds):
    """Return the ways of a sender that emits at most so many kinds."""
    states = draw.randint(1, 2)
    all_ways = [(kind, state) for kind in range(kinds) for state in range(states)]
    few = min(draw.choice([1, 1, 2, 3]), len(all_ways))
    return [sorted(draw.sample(all_ways, draw.choice([1, few]))) for _ in range(states)]


def drawn_let_word(draw, ways, state, length):
    """Return the kinds along drawn ways, and the state at which they end."""
    word = []
    for _ in range(length):
        kind, state = draw.choice(ways[state])
        word.append(kind)
    return word, state


def small_message(draw, burdens, kind):
    return kind, tuple(draw.randint(-5, 5) for _ in range(burdens[kind]))


def drawn_forms(draw, width, most):
    """Return a few forms: differences, single entries, zero forms and any others."""
    forms = []
    for _ in range(draw.choice([0, 1, 1, most])):
        form = [0] * width
        choice = draw.randrange(5)
        if choice == 0:
            form = [draw.randint(-2, 2) for _ in range(width)]
        elif choice < 4:
            form[draw.randrange(width)] = 1
            form[draw.randrange(width)] -= 1 if choice < 3 else 0
        forms.append(form)
    return forms


def drawn_script_parts(draw):
    """Return burdens, cells, blocks and shows of a script."""
    burdens = [draw.randint(0, 2) for _ in range(draw.randint(1, 3))]
    controls, cells, most = draw.randint(1, 3), draw.randint(1, 3), draw.choice([1, 1, 2, 9])

    def row(length):
        return [draw.choice([0, 0, draw.randint(-most, most)]) for _ in range(length)]

    def statement(burden):
        word = draw.choice(["set", "add", "swap", "go"])
        if word == "go":
            return word, draw.randrange(controls)
        if word == "swap":
            return word, draw.randrange(cells), draw.randrange(cells)
        return word, draw.randrange(cells), row(1 + cells + burden)

    blocks = [[[statement(burden) for _ in range(draw.randint(0, 6))] for burden in burdens] for _ in range(controls)]
    shows = [[row(1 + cells) for _ in range(draw.randint(0, 2))] for _ in range(controls)]
    return burdens, cells, blocks, shows


def spoiled_table(draw, table):
    """Return the table after a few changes at drawn places."""
    thing = copy.deepcopy(table)
    for _ in range(draw.choice([1, 1, 2])):
        if thing:
            spoil_item(draw, thing)
    if thing and draw.random() < 0.2:
        at = draw.randrange(len(thing))
        thing[at] = draw.choice([list(thing[at]), thing[at][:-1], thing[at][1:], None, (*thing[at], [])])
    return thing


def spoil_item(draw, thing):
    """Change the thing, a list of keys with spaces, at one place."""
    at = draw.randrange(len(thing))
    *key, basis = thing[at]
    width = len(basis[0]) if basis else 1
    choice = draw.randrange(11)
    if choice == 0:
        del thing[at]
    elif choice == 1:
        thing.insert(draw.randrange(len(thing) + 1), copy.deepcopy(thing[at]))
    elif choice == 2 and basis:
        draw.choice(basis)[draw.randrange(width)] += draw.choice([1, -1])
    elif choice == 3 and basis:
        basis.pop(draw.randrange(len(basis)))
    elif choice == 4:
        key[draw.randrange(len(key))] = draw.randint(-1, 3)
        thing[at] = (*key, basis)
    elif choice == 5:
        draw.shuffle(thing)
    elif choice > 5:
        # Another space, most often a greater one, that is well formed still.
        vector = [draw.choice([0, 0, 1, draw.randint(-3, 3)]) for _ in range(width)]
        kept = basis if choice > 7 else basis[:-1]
        thing[at] = (*key, canonical(kept + [vector]))


def with_shows(draw, parts):
    """Return the parts with shows that often leave some of the cells unseen."""
    burdens, rules, _ = parts
    cells, same = len(rules[0][0][1]), draw.random() < 0.6
    count = draw.randint(0, 2)

    def row():
        if draw.random() < 0.3:
            return [draw.choice([0, 0, 1, -1, 2]) for _ in range(1 + cells)]
        return [0] + [int(at == draw.randrange(cells)) for at in range(cells)]

    shows = [[row() for _ in range(count if same else draw.randint(0, 2))] for _ in rules]
    if draw.random() < 0.4:
        shows = [copy.deepcopy(shows[0]) for _ in shows]
    return burdens, rules, shows


def spoiled_parts(draw, parts):
    """Return the parts with one coefficient, one control behind a message or one show changed."""
    burdens, rules, shows = copy.deepcopy(parts)
    control = draw.randrange(len(rules))
    kind, choice = draw.randrange(len(burdens)), draw.randrange(4)
    behind, rows = rules[control][kind]
    if choice < 2:
        row = draw.choice(rows)
        row[draw.randrange(len(row))] = draw.randint(-2, 2)
    elif choice == 2:
        rules[control][kind] = (draw.randrange(len(rules)), rows)
    elif shows[control]:
        row = draw.choice(shows[control])
        row[draw.randrange(len(row))] += draw.choice([1, -1])
    return burdens, rules, shows


def other_way_to_write(draw, rules):
    """Return rules that do the same with other cells and controls, and how to tell the same of them.

    The cells are exchanged and some negated, there may be one more cell that no other one depends on, and there may
    be a second copy of a control. The answer is the rules, a function that turns a row over the old cells into one
    over the new ones, and for each new control the old one.
    """
    cells = len(rules[0][0][1])
    places, signs = draw.sample(range(cells), cells), [draw.choice([1, 1, -1]) for _ in range(cells)]
    more = draw.randint(0, 1) if cells < 3 else 0
    origin = list(range(len(rules)))
    if len(rules) < 3 and draw.random() < 0.5:
        origin.append(draw.randrange(len(rules)))

    def turned_row(row):
        turned = [row[0]] + [0] * (cells + more) + list(row[1 + cells:])
        for at in range(cells):
            turned[1 + places[at]] = signs[at] * row[1 + at]
        return turned

    def turned_rule(rule):
        behind, rows = rule
        behind = draw.choice([control for control, old in enumerate(origin) if old == behind])
        turned = [None] * cells
        for at, row in enumerate(rows):
            turned[places[at]] = [signs[at] * entry for entry in turned_row(row)]
        turned += [[draw.randint(-2, 2) for _ in turned[0]] for _ in range(more)]
        return behind, turned

    return [[turned_rule(rule) for rule in rules[old]] for old in origin], turned_row, origin


def same_in_other_words(draw, parts):
    """Return the parts of another listener that always sees the same."""
    burdens, rules, shows = parts
    turned, turned_row, origin = other_way_to_write(draw, rules)
    return list(burdens), turned, [[turned_row(row) for row in shows[old]] for old in origin]


def settable_parts(draw):
    """Return parts of a listener and, for each control, a speech that sets a late one to what the cells are.

    At control 0 a message of kind k goes to control k and sets the first two cells, perhaps to a few more or less
    than it carries. What else there is may let the speech fail: other rules may change the third cell, which is set
    to 0; and the start, with all cells 0, may be what no speech brings about.
    """
    cells, controls = draw.randint(1, 3), draw.randint(1, 3)
    kinds = draw.randint(controls, 3)
    burdens = [min(cells, 2)] * controls + [draw.randint(0, 2) for _ in range(kinds - controls)]
    calm = draw.random() < 0.6

    def any_row(burden, at):
        return [0] * (1 + cells + burden) if at == 2 and calm else plain_row(draw, cells, burden, at)

    rules = [[(draw.randrange(controls), [any_row(burden, at) for at in range(cells)]) for burden in burdens]
             for _ in range(controls)]
    more = [draw.choice([0, 0, 2, -3]) for _ in range(cells)]
    for kind in range(controls):
        rows = [[int(column == 1 + cells + at) if at < 2 else 0 for column in range(1 + cells + burdens[kind])]
                for at in range(cells)]
        for row, constant in zip(rows[:2], more):
            row[0] = constant
        rules[0][kind] = (kind, rows)
    unit = [[-more[at]] + [int(column == at) for column in range(cells)] for at in range(cells)]
    speeches = []
    for control in range(controls):
        # Messages of kind 0 before the last one change nothing behind it.
        vain = [(0, [[draw.randint(-2, 2) for _ in range(1 + cells)] for _ in range(burdens[0])])
                for _ in range(draw.choice([0, 0, 1, 3]))]
        speeches.append(vain + [(control, [list(row) for row in unit[:2]])])
    return with_shows(draw, (burdens, rules, [[] for _ in rules])), speeches


def shifting_parts(draw):
    """Return parts of a listener that shifts its cells, and a speech that fills a late one."""
    cells = draw.randint(1, 3)
    rows = [[0] * (1 + cells) + [1]] + [[int(column == at) for column in range(1 + cells)] + [0] for at in range(1, cells)]
    speech = [(0, [[int(column == 1 + at) for column in range(1 + cells)]]) for at in reversed(range(cells))]
    vain = [(0, [[draw.randint(-2, 2) for _ in range(1 + cells)]]) for _ in range(draw.choice([0, 0, 1]))]
    return with_shows(draw, ([1], [[(0, rows)]], [[]])), [vain + speech]


def drawn_chase(draw):
    """Return the parts of a listener and those of a chaser, which often brings a late listener level."""
    if draw.random() < 0.1:
        parts = with_shows(draw, plain_parts(draw))
        speeches = [[] for _ in parts[1]]
    else:
        parts, speeches = draw.choice([settable_parts, settable_parts, shifting_parts])(draw)
    rules, turned_row, origin = other_way_to_write(draw, parts[1])
    told = [[(kind, [turned_row(row) for row in rows]) for kind, rows in speeches[old]] for old in origin]
    chaser = (list(parts[0]), rules, told)
    if draw.random() < 0.2:
        chaser = (*spoiled_parts(draw, (parts[0], rules, [[] for _ in rules]))[:2], told)
    elif draw.random() < 0.35:
        chaser = spoiled_speeches(draw, chaser)
    return parts, chaser


def spoiled_speeches(draw, chaser):
    """Return the chaser with another speech at one control."""
    burdens, rules, speeches = copy.deepcopy(chaser)
    speech = draw.choice(speeches)
    choice = draw.randrange(4)
    if choice == 0 and speech:
        speech.pop(draw.randrange(len(speech)))
    elif choice == 1:
        speech.clear()
    elif choice == 2 and len(speech) < 4:
        kind = draw.randrange(len(burdens))
        width = 1 + len(rules[0][0][1])
        speech.insert(draw.randint(0, len(speech)), (kind, [[draw.randint(-1, 1) for _ in range(width)]
                                                            for _ in range(burdens[kind])]))
    elif speech:
        kind, rows = draw.choice(speech)
        if rows:
            row = draw.choice(rows)
            row[draw.randrange(len(row))] += draw.choice([1, -1])
    return burdens, rules, speeches
