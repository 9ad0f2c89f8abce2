"""The errors of the package, each with what it is about in its attribute."""


class ToldError(ValueError):
    """The base class of the other errors."""


class BadColumns(ToldError):
    """The thing with this index, of told and behind it of free, makes no column; 0 if there is none."""

    def __init__(self, index):
        self.index = index


class NoColumn(ToldError):
    """This object is no name of a column."""

    def __init__(self, name):
        self.name = name


class BadNumber(ToldError):
    """No row can have this number."""

    def __init__(self, number):
        self.number = number


class BadRow(ToldError):
    """What stands at this number is no row of the columns."""

    def __init__(self, number):
        self.number = number


class BadFollowing(ToldError):
    """This number cannot follow the numbers of the rows."""

    def __init__(self, following):
        self.following = following


class NoRow(ToldError):
    """This object is not the number of a row."""

    def __init__(self, number):
        self.number = number


class BadLook(ToldError):
    """A look cannot be made with this object."""

    def __init__(self, given):
        self.given = given


class UnlikeColumns(ToldError):
    """Two things have unlike columns."""


class BadStatement(ToldError):
    """The part of a statement with this name is not as told."""

    def __init__(self, part):
        self.part = part


class BadTrigger(ToldError):
    """The part of a trigger, or the list of triggers, with this name is not as told."""

    def __init__(self, part):
        self.part = part


class BadScript(ToldError):
    """The thing with this index is not a statement of the columns."""

    def __init__(self, index):
        self.index = index


class NoStatement(ToldError):
    """This object is no index of a statement."""

    def __init__(self, index):
        self.index = index


class NotPlain(ToldError):
    """The statement with this index has a moment or a throw."""

    def __init__(self, index):
        self.index = index


class BadDealings(ToldError):
    """The thing with this index is no dealing, or is one too many."""

    def __init__(self, index):
        self.index = index


class BadLevel(ToldError):
    """This object is no level at which home locks."""

    def __init__(self, level):
        self.level = level


class BadOrder(ToldError):
    """This object is no order in which the rows can lie."""

    def __init__(self, order):
        self.order = order


class BadWord(ToldError):
    """This object cannot be a new word."""

    def __init__(self, word):
        self.word = word


class Barred(ToldError):
    """A statement would have to wait for the dealing with this number."""

    def __init__(self, dealing):
        self.dealing = dealing


class Busy(ToldError):
    """A dealing is open."""


class Closed(ToldError):
    """The dealing is not open."""


class Halted(ToldError):
    """The copy has halted at this place."""

    def __init__(self, place):
        self.place = place


class NoEntry(ToldError):
    """No entry of the log stands at this place."""

    def __init__(self, place):
        self.place = place


class NoWords(ToldError):
    """New words are needed, and there is no function that returns them."""


class Refused(ToldError):
    """The statement is refused."""


class BadText(ToldError):
    """No text goes on with the line of this number."""

    def __init__(self, line):
        self.line = line
