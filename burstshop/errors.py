"""The errors of the program: a base class, and one class below it for each kind of failure."""


class ShopError(Exception):
    """The base of all errors of the program."""


class InvalidCube(ShopError):
    """An argument is not a cube of the right size; at is its number."""

    def __init__(self, at):
        self.at = at


class InvalidPoint(ShopError):
    """An argument or an item is not a point of the right size."""

    def __init__(self, at):
        self.at = at


class InvalidTable(ShopError):
    """No table can be made; why is a word that tells the reason."""

    def __init__(self, why):
        self.why = why


class InvalidChange(ShopError):
    """A change is wrong: -1 for the argument itself, otherwise the index of an item."""

    def __init__(self, at):
        self.at = at


class InvalidCover(ShopError):
    """A cover is wrong: -1 for its form, -2 for its fitness, otherwise the index of a product."""

    def __init__(self, at):
        self.at = at


class InvalidOrder(ShopError):
    """An order of wires is wrong at an index; -1 for its form."""

    def __init__(self, at):
        self.at = at


class InvalidWord(ShopError):
    """A value is not a word."""


class InvalidTree(ShopError):
    """A tree is wrong; path leads to the first wrong node."""

    def __init__(self, path):
        self.path = path


class InvalidPlay(ShopError):
    """A play does not fit its tree; path leads to the first node with a wrong play."""

    def __init__(self, path):
        self.path = path


class InvalidRule(ShopError):
    """A rule is wrong: which side of it, and the path of a node there."""

    def __init__(self, which, path):
        self.which = which
        self.path = path


class InvalidMachine(ShopError):
    """A machine cannot be made: which part of it, and the index of an item there."""

    def __init__(self, part, at):
        self.part = part
        self.at = at


class InvalidStanding(ShopError):
    """A value is not a standing of a machine or a web."""


class InvalidName(ShopError):
    """A name is not an input."""

    def __init__(self, name):
        self.name = name


class InvalidNumber(ShopError):
    """A number is out of its range."""


class InvalidCoding(ShopError):
    """A coding is wrong: -1 for its form, otherwise the index of a code."""

    def __init__(self, at):
        self.at = at


class InvalidTrees(ShopError):
    """The trees of a net are wrong: -1 for their form, otherwise the index of a tree."""

    def __init__(self, at):
        self.at = at


class InvalidParts(ShopError):
    """The parts of a web are wrong: -1 for their form, otherwise the index of a part."""

    def __init__(self, at):
        self.at = at


class InvalidBurst(ShopError):
    """A burst is wrong: -1 for its form, otherwise the index of an input."""

    def __init__(self, at):
        self.at = at


class InvalidText(ShopError):
    """A text cannot be read; at is the index of a sign or the number of a line."""

    def __init__(self, at):
        self.at = at


class BadProgram(ShopError):
    """A program is wrong; path leads to the first wrong node."""

    def __init__(self, path):
        self.path = path


class UnknownName(ShopError):
    """A program uses a name that its machine does not have."""

    def __init__(self, name):
        self.name = name


class Unsound(ShopError):
    """A machine has a fault: its kind, and the index of an arc."""

    def __init__(self, why, at):
        self.why = why
        self.at = at


class Unlike(ShopError):
    """The inputs or the outputs of two machines, or of a web and a machine, differ."""


class Choke(ShopError):
    """What was fed does not fit; at is the index of the first name that does not."""

    def __init__(self, at):
        self.at = at


class Clash(ShopError):
    """A coding gives a point two different signs of a function."""

    def __init__(self, arc, function):
        self.arc = arc
        self.function = function


class TwoSenders(ShopError):
    """Two parts of a web have an output of the same name."""

    def __init__(self, name):
        self.name = name


class NotAMove(ShopError):
    """A move is not possible on the board."""


class LimitExceeded(ShopError):
    """The limit is too small for what was asked for."""

    def __init__(self, limit):
        self.limit = limit


class NothingLeft(ShopError):
    """There is nothing of the kind that word names."""

    def __init__(self, word):
        self.word = word
