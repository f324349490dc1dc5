"""The tables of pairs of stands behind 0, 1, 2 .. messages after an entry."""

from latecomers.search import search_from_start
from latecomers.spans import Span
from latecomers.tables import Hearers
from latecomers.values import unit_form


class Fading:
    """The tables behind so many messages, made one after another as far as they are asked for.

    Each of them lies in the one before it. Once one is as great as the one
    before it, they are equal, and so are all that follow.
    """

    def __init__(self, listener, sender):
        self.many_cells = listener.cell_count()
        self.search = search_from_start(Hearers(sender, [listener]))
        self.hearers = Hearers(sender, [listener, listener])
        self.made = [entry_bases(self.search, listener.control_count(), self.many_cells)]
        self.ended = False

    def bases(self, many):
        """Return the table behind that many messages."""
        while len(self.made) <= many and not self.ended:
            self.make_next()
        return self.made[min(many, len(self.made) - 1)]

    def is_last(self, many):
        """Tell whether the table behind that many messages is also the one behind all more."""
        self.bases(many + 1)
        return len(self.made) <= many + 1

    def last_bases(self):
        """Return the table behind all great enough numbers of messages."""
        while not self.ended:
            self.make_next()
        return self.made[-1]

    def make_next(self):
        """Make the table behind one more message, unless it is the last one again."""
        bases = bases_behind(self.hearers, self.made[-1])
        if sizes(bases) == sizes(self.made[-1]):
            self.ended = True
        else:
            self.made.append(bases)


def entry_bases(search, controls, cells):
    """Return the table of the entries; with zeros and units behind them its bases are canonical."""
    width = 1 + 2 * cells
    of_late = [unit_form(width, at) for at in range(1 + cells, width)]
    found = search.bases()
    bases = {}
    for state, control in found:
        of_one = [vector + [0] * cells for vector in found[state, control]]
        for other in range(controls):
            bases[state, control, other] = of_one + of_late
    return bases


def bases_behind(hearers, bases):
    """Return the table behind one more message."""
    spans = {}
    for key in bases:
        for kind, behind, effect in hearers.steps[key]:
            if behind not in spans:
                spans[behind] = Span(hearers.width)
            # The space lies in the one of before: as great as that, it cannot grow.
            if len(spans[behind].rows) < len(bases[behind]):
                for vector in effect.image(bases[key]):
                    spans[behind].take(vector)
    return {key: bases[key] if len(spans[key].rows) == len(bases[key]) else spans[key].basis() for key in spans}


def sizes(bases):
    """Return the number of vectors at each key of the table."""
    return {key: len(bases[key]) for key in bases}
