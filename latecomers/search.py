"""A search for the stands behind runs that are let, shorter runs first."""

from latecomers.spans import Span
from latecomers.tables import handed_out
from latecomers.values import form_value, unit_form


class Find:
    """A run of messages behind which the hearers are at some key, with the vector of their stands."""

    def __init__(self, key, vector, before, message):
        self.key = key
        self.vector = vector
        # The index of the find that is one message shorter, and that message.
        self.before = before
        self.message = message


class Search:
    """Finds whose vectors span, at each key, the vectors behind all runs that are let from the first stands.

    A form that is not 0 behind some run of a length is not 0 behind some find
    of at most this length. For this it is enough to try messages of which at
    most one integer is 1 and the others are 0, and to keep a vector only if
    no combination of earlier ones at its key gives it: the finds come in the
    order of the lengths of their runs, so the earlier ones are not longer.
    """

    def __init__(self, hearers, key, vector):
        self.hearers = hearers
        self.spans = {}
        self.finds = []
        self.offer(Find(key, vector, -1, None))
        at = 0
        while at < len(self.finds):
            self.go_on(at)
            at += 1

    def go_on(self, at):
        """Offer what is one message behind the find at this index."""
        find = self.finds[at]
        for kind, behind, effect in self.hearers.steps[find.key]:
            moved = effect.moved(find.vector)
            self.offer(Find(behind, moved, at, (kind, effect.numbers(-1))))
            for index, carried in enumerate(effect.carried):
                added = [entry + more for entry, more in zip(moved, carried)]
                self.offer(Find(behind, added, at, (kind, effect.numbers(index))))

    def offer(self, find):
        """Keep the find if its vector is new at its key."""
        if find.key not in self.spans:
            self.spans[find.key] = Span(self.hearers.width)
        if self.spans[find.key].take(find.vector):
            self.finds.append(find)

    def first_not_zero(self, forms):
        """Return the index of the first find at which one of the forms of its key is not 0, or None."""
        for at, find in enumerate(self.finds):
            for form in forms[find.key]:
                if form_value(form, find.vector) != 0:
                    return at
        return None

    def run(self, at):
        """Return the messages that lead from the first stands to the find at this index."""
        messages = []
        while self.finds[at].before != -1:
            messages.append(self.finds[at].message)
            at = self.finds[at].before
        return messages[::-1]

    def bases(self):
        """Return the canonical basis at each key that is found."""
        return {key: self.spans[key].basis() for key in self.spans}

    def table(self):
        """Return the least closed table that contains the first stands."""
        return handed_out(self.bases())


def search_from_start(hearers):
    """Return the search from the starts of all hearers, at state 0."""
    return Search(hearers, hearers.all_keys()[0], unit_form(hearers.width, 0))
