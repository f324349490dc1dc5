"""The errors of the package, each of them directly under LateError."""


class LateError(ValueError):
    """Any error that this package raises."""


class NoWidth(LateError):
    """The width is not an integer from 1 to 9."""


class NoSpace(LateError):
    """The value is not the canonical basis of a space of the width asked for."""


class NoMatrix(LateError):
    """The value is not a matrix of the width asked for."""


class NoRule(LateError):
    """The listener has no such rule or no such control."""


class NoStand(LateError):
    """The value is not a stand, or not a control, of the listener."""


class NoWord(LateError):
    """The value is not a word of kinds."""


class NoState(LateError):
    """The sender has no such state."""


class Unlike(LateError):
    """The arguments do not fit each other: their kinds or burdens differ."""


class NoClaims(LateError):
    """The value is not the claims asked for."""


class NoMany(LateError):
    """The number of messages is not an integer in the range asked for."""


class NoCells(LateError):
    """The value is not an ascending list of cells."""


class NoCell(LateError):
    """The listener has no such cell."""


class NoNumber(LateError):
    """The value is not an integer."""


class NoVector(LateError):
    """The item at this index is not a vector; -1 if there is no list."""

    def __init__(self, index):
        self.index = index


class NoMessage(LateError):
    """The item at this index is not a message; -1 if there is no list."""

    def __init__(self, index):
        self.index = index


class NoListener(LateError):
    """The argument named by place is not as a listener asks for."""

    def __init__(self, place):
        self.place = place


class NoScript(LateError):
    """The argument named by place is not as a script asks for."""

    def __init__(self, place):
        self.place = place


class NoChaser(LateError):
    """The argument named by place is not as a chaser asks for."""

    def __init__(self, place):
        self.place = place


class TooGreat(LateError):
    """A coefficient of this rule would lie outside of -9..9."""

    def __init__(self, rule):
        self.rule = rule


class NoSender(LateError):
    """The ways of this state are not as described; -1 if there is no list."""

    def __init__(self, state):
        self.state = state


class NoText(LateError):
    """No text begins with the lines up to this one; -1 if there is no string."""

    def __init__(self, line):
        self.line = line
