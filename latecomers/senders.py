"""Senders: they emit messages of certain kinds without end."""

from latecomers.errors import NoSender, NoState, NoWord, Unlike
from latecomers.listeners import MOST_KINDS, are_messages
from latecomers.values import ascends, is_index

MOST_STATES = 2


class Sender:
    """One or two states, each with ways to emit a message and go on to a state."""

    def __init__(self, ways):
        if not isinstance(ways, list) or not 1 <= len(ways) <= MOST_STATES:
            raise NoSender(-1)
        for state, of_state in enumerate(ways):
            if not are_ways(len(ways), of_state):
                raise NoSender(state)
        self.exits = [list(of_state) for of_state in ways]

    def state_count(self):
        """Return the number of states."""
        return len(self.exits)

    def ways(self, state):
        """Return the ways of the state, tuples of a kind and the next state."""
        self.check_state(state)
        return list(self.exits[state])

    def states_behind(self, state, word):
        """Return the states to which ways with the kinds of the word can lead from the state."""
        self.check_state(state)
        check_kinds(word)
        return self.followed([state], word)

    def lets(self, word):
        """Tell whether ways with the kinds of the word lead somewhere from state 0."""
        check_kinds(word)
        return self.followed([0], word) != []

    def followed(self, states, word):
        """Return the states, ascending, to which the word leads from any of these states."""
        for kind in word:
            states = sorted({behind for state in states for emitted, behind in self.exits[state] if emitted == kind})
        return states

    def check_state(self, state):
        """Raise NoState if this is not a state of the sender."""
        if not is_index(state, len(self.exits)):
            raise NoState()


def are_ways(states, value):
    """Tell whether the value is a list of one or more ways that ascend strictly."""
    if not isinstance(value, list) or not value or not all([is_way(states, item) for item in value]):
        return False
    return ascends(value)


def is_way(states, value):
    """Tell whether the value is a tuple of a kind and one of so many states."""
    if not isinstance(value, tuple) or len(value) != 2:
        return False
    return is_index(value[0], MOST_KINDS) and is_index(value[1], states)


def check_kinds(word):
    """Raise NoWord if this is not a list of kinds that a sender may emit."""
    if not isinstance(word, list) or not all([is_index(kind, MOST_KINDS) for kind in word]):
        raise NoWord()


def check_fit(listener, sender):
    """Raise Unlike if a way of the sender names a kind that the listener does not have."""
    for of_state in sender.exits:
        for kind, behind in of_state:
            if kind >= listener.kind_count():
                raise Unlike()


def check_like(one, other):
    """Raise Unlike if the burdens of the two hearers are not equal."""
    if one.burdens != other.burdens:
        raise Unlike()


def ends(sender, messages):
    """Return the states at which a list of messages from state 0 can end."""
    return sender.followed([0], [kind for kind, numbers in messages])


def list_fault(listener, sender, state, thing):
    """Return the first fault of the thing as a list of messages that is let from the state, or None."""
    if not are_messages(listener.burdens, thing):
        return ("form",)
    index = first_unlet(sender, state, thing)
    if index is not None:
        return "way", index
    return None


def first_unlet(sender, state, messages):
    """Return the index of the first message with which the list is not let from the state, or None."""
    states = [state]
    for index, (kind, numbers) in enumerate(messages):
        states = sender.followed(states, [kind])
        if not states:
            return index
    return None
