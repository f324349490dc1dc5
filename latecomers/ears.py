"""Ears: listening copies of a listener, which change as they hear."""

from latecomers.errors import NoCell, NoMessage, NoNumber, NoStand
from latecomers.listeners import Listener, is_message
from latecomers.values import is_index, is_integer


class Mark:
    """What an ear was when a block began, and the mark of the block around that one."""

    def __init__(self, place, record, outer):
        self.place = place
        self.record = record
        self.outer = outer


class Ear:
    """One listening copy of a listener."""

    def __init__(self, listener):
        self.listener = Listener(listener.burdens, listener.rules, listener.shows)
        self.place = listener.start()
        # The messages heard. The list is never changed, only replaced, so that a mark may keep it.
        self.record = []
        self.outer = None

    def hear(self, message):
        """Hear a message."""
        self.place = self.listener.hear(self.place, message)
        self.record = self.record + [message]

    @property
    def control(self):
        """The control of the ear."""
        return self.place[0]

    @control.setter
    def control(self, value):
        if not is_index(value, self.listener.control_count()):
            raise NoStand()
        self.place = value, self.place[1]

    @property
    def cells(self):
        """The tuple of the cells of the ear."""
        return self.place[1]

    def __getitem__(self, at):
        cells = self.place[1]
        if not is_index(at, len(cells)):
            raise NoCell()
        return cells[at]

    def __setitem__(self, at, worth):
        control, cells = self.place
        if not is_index(at, len(cells)):
            raise NoCell()
        if not is_integer(worth):
            raise NoNumber()
        self.place = control, cells[:at] + (worth,) + cells[at + 1:]

    def __iter__(self):
        raise TypeError("an ear is not iterated over; its cells are")

    def __len__(self):
        return len(self.record)

    def __enter__(self):
        self.outer = Mark(self.place, self.record, self.outer)
        return self

    def __exit__(self, *told):
        self.place = self.outer.place
        self.record = self.outer.record
        self.outer = self.outer.outer

    def seen(self):
        """Return what the listener sees at the ear's stand."""
        return self.listener.seen(self.place)

    def stand(self):
        """Return the stand of the ear."""
        return self.place

    def trace(self, messages):
        """Hear the messages one after another, each in a step of its own, and yield the stand behind each."""
        for index, message in enumerate(messages):
            if not is_message(self.listener.burdens, message):
                raise NoMessage(index)
            self.hear(message)
            yield self.place


def set_stand(ear, stand):
    """Set the control and the cells of the ear to those of the stand."""
    ear.listener.check_stand(stand)
    ear.place = stand


def tried(ear, messages):
    """Return the stands behind each of the messages, and leave the ear as it is."""
    with ear:
        stands = list(ear.trace(messages))
    return stands


def branches(ear, tree):
    """Return the stands behind all messages of the tree, in the order heard, and leave the ear as it is."""
    stands = []
    hear_tree(ear, tree, stands)
    return stands


def hear_tree(ear, tree, stands):
    """Hear each pair of the tree from the same stand, and add the stands behind the messages to the list."""
    for pair in tree:
        if not is_pair(ear, pair):
            raise NoMessage(len(stands))
        message, below = pair
        with ear:
            ear.hear(message)
            stands.append(ear.stand())
            hear_tree(ear, below, stands)


def is_pair(ear, value):
    """Tell whether the value is a tuple of a message and a list."""
    if not isinstance(value, tuple) or len(value) != 2:
        return False
    return is_message(ear.listener.burdens, value[0]) and isinstance(value[1], list)
