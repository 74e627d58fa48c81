"""The errors of the program. Each keeps what it is made with."""


class WayError(ValueError):
    """The base of all errors of the program."""


class BadField(WayError):
    """No field is described."""

    def __init__(self, name):
        self.name = name


class BadKind(WayError):
    """No kind is described."""

    def __init__(self, name):
        self.name = name


class BadHouse(WayError):
    """No house is described."""

    def __init__(self, name):
        self.name = name


class UnknownKind(WayError):
    """A house has no kind of this name."""

    def __init__(self, name):
        self.name = name


class UnknownField(WayError):
    """A kind has no field of this name."""

    def __init__(self, kind, name):
        self.kind = kind
        self.name = name


class BadWeb(WayError):
    """A thing of a web is not as it should be; -1 stands for the whole web."""

    def __init__(self, thing):
        self.thing = thing


class BadText(WayError):
    """A line of a text is wrong; -1 stands for what is no text."""

    def __init__(self, line):
        self.line = line


class BadManner(WayError):
    """A manner is unknown, repeated or not allowed."""

    def __init__(self, name):
        self.name = name


class BadClient(WayError):
    """A line of a client is wrong; -1 stands for what is no client."""

    def __init__(self, line):
        self.line = line


class BadTravel(WayError):
    """An entry of a travel is wrong."""

    def __init__(self, kind, field):
        self.kind = kind
        self.field = field


class BadReader(WayError):
    """A house is no edition of another one."""

    def __init__(self, kind):
        self.kind = kind


class BadRow(WayError):
    """Travels do not make a row, or a row has no such travel."""

    def __init__(self, travel):
        self.travel = travel


class Endless(WayError):
    """The walk of a travel would never end."""

    def __init__(self, travel):
        self.travel = travel


class TooLarge(WayError):
    """Something is larger than its bound."""

    def __init__(self, count):
        self.count = count


class BadSaved(WayError):
    """A line of a saved text is wrong."""

    def __init__(self, line):
        self.line = line


class BadStanding(WayError):
    """A value is no standing, word or state of the kind that is asked for."""


class BadPaper(WayError):
    """What is handed in as a proof does not hold."""


class BadComparer(WayError):
    """No comparer is described."""

    def __init__(self, kind):
        self.kind = kind


class BadChange(WayError):
    """A change of a row is wrong."""

    def __init__(self, at):
        self.at = at


class BadName(WayError):
    """A name is wrong or unknown."""

    def __init__(self, name):
        self.name = name


class Busy(WayError):
    """A heap is in use by a walk."""
