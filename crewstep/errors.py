"""The errors of the package: three families and the classes directly under them."""


class CrewError(ValueError):
    """An argument is not as the document describes it."""


class InvalidRoster(CrewError):
    """Not a roster; entry is the index of the first wrong item, or None."""

    def __init__(self, entry):
        self.entry = entry


class InvalidPeople(CrewError):
    """Not a line or ring; place is that of the first wrong character, or None."""

    def __init__(self, place):
        self.place = place


class InvalidBadge(CrewError):
    """Not a badge of the roster."""

    def __init__(self, badge):
        self.badge = badge


class InvalidPlace(CrewError):
    """Not a place in range."""

    def __init__(self, place):
        self.place = place


class InvalidWalk(CrewError):
    """Not a walk; index is that of the first item that is not a step, or None."""

    def __init__(self, index):
        self.index = index


class InvalidReading(CrewError):
    """Not a reading; index is that of the first deletion that is not valid, or None."""

    def __init__(self, index):
        self.index = index


class InvalidForm(CrewError):
    """Not a form; part names what is wrong with it."""

    def __init__(self, part):
        self.part = part


class InvalidWord(CrewError):
    """Not a word; place is that of the first wrong character, or None."""

    def __init__(self, place):
        self.place = place


class InvalidCounts(CrewError):
    """Not the counts of a line."""

    def __init__(self, counts):
        self.counts = counts


class InvalidRank(CrewError):
    """Not a rank of a line of the form."""

    def __init__(self, rank):
        self.rank = rank


class InvalidName(CrewError):
    """Not a name."""

    def __init__(self, name):
        self.name = name


class InvalidEdit(CrewError):
    """Not an edit; index is that of the first wrong item, or None."""

    def __init__(self, index):
        self.index = index


class InvalidText(CrewError):
    """Not a text; line is the index of the first line that cannot stand there."""

    def __init__(self, line):
        self.line = line


class StateError(RuntimeError):
    """A call that the lines, rings or names of the moment do not allow."""


class NotPossible(StateError):
    """A step is not possible at its turn; index is its place in the walk."""

    def __init__(self, index):
        self.index = index


class NotReachable(StateError):
    """No walk leads from the one to the other; reason tells why."""

    def __init__(self, reason):
        self.reason = reason


class SeveralCrews(StateError):
    """Several badges have crews; badge is the second of them."""

    def __init__(self, badge):
        self.badge = badge


class NameTaken(StateError):
    """The name is in use."""

    def __init__(self, name):
        self.name = name


class WrongShape(StateError):
    """The name stands for a ring instead of a line, or the reverse."""

    def __init__(self, name):
        self.name = name


class EmptyRing(StateError):
    """A ring would be left without people."""

    def __init__(self, name):
        self.name = name


class Full(StateError):
    """More than limit people or names would be there."""

    def __init__(self, limit):
        self.limit = limit


class MissingError(LookupError):
    """Something that a call asks for is not there."""


class NoName(MissingError):
    """The name is not in use."""

    def __init__(self, name):
        self.name = name


class NothingToUndo(MissingError):
    """There is no action to undo or redo; action tells which of the two."""

    def __init__(self, action):
        self.action = action
