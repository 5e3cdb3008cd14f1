"""The exceptions of the program. Each keeps what it was made of in fields of these names."""


class MaskError(ValueError):
    """What all errors about wrong values have in common; never raised itself."""


class InvalidLevels(MaskError):
    """Names or pairs that are no levels in an order."""

    def __init__(self, value):
        self.value = value


class InvalidLevel(MaskError):
    """A value that is not a level."""

    def __init__(self, value):
        self.value = value


class InvalidName(MaskError):
    """A value that is not a name, not the text of a name, or not a source or mark."""

    def __init__(self, value):
        self.value = value


class InvalidNumber(MaskError):
    """A value that is not a number in the bounds."""

    def __init__(self, value):
        self.value = value


class InvalidText(MaskError):
    """A text that is not the text of a view; the value is the index of a line."""

    def __init__(self, value):
        self.value = value


class InvalidQuery(MaskError):
    """A value of which no condition or path can be made."""

    def __init__(self, value):
        self.value = value


class InvalidView(MaskError):
    """A value that is not a view, or not a view that fits."""

    def __init__(self, value):
        self.value = value


class InvalidMoment(MaskError):
    """A value that is not a moment, or not a moment of the level."""

    def __init__(self, value):
        self.value = value


class InvalidEdit(MaskError):
    """A changed text that asks for too much; the value is the index of a line."""

    def __init__(self, value):
        self.value = value


class BadRecords(MaskError):
    """Records that cannot stand together."""

    def __init__(self, value):
        self.value = value


class InvalidRights(MaskError):
    """A value that does not give levels to users."""

    def __init__(self, value):
        self.value = value


class InvalidLine(MaskError):
    """A line that the console does not know."""

    def __init__(self, value):
        self.value = value


class NoFault(MaskError):
    """A value that is not the word of a fault."""

    def __init__(self, value):
        self.value = value


class InvalidScript(MaskError):
    """A text that is not a script; at is the index at which this shows."""

    def __init__(self, at):
        self.at = at


class NotSeen(KeyError):
    """A value that is not the name of what a view shows."""

    def __init__(self, value):
        self.value = value


class NoOffer(KeyError):
    """A value that is not the number of an open offer."""

    def __init__(self, value):
        self.value = value


class Refused(RuntimeError):
    """A deed that is refused, with the word and the value of the refusal."""

    def __init__(self, word, value):
        self.word = word
        self.value = value


class NoRight(RuntimeError):
    """A user without the right that is needed."""

    def __init__(self, value):
        self.value = value


class SameUser(RuntimeError):
    """A user who approves what this user has offered."""

    def __init__(self, value):
        self.value = value


class Closed(RuntimeError):
    """A session that is not open any more."""

    def __init__(self):
        RuntimeError.__init__(self, "the session is closed")


class NoServer(RuntimeError):
    """A console without a server, or at which nobody works."""

    def __init__(self):
        RuntimeError.__init__(self, "there is no server, or nobody works")
