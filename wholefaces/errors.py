"""All errors of the package: MeshError, its four families, and the errors of each family."""


class MeshError(ValueError):
    """The base of all errors of the package."""


class PaperError(MeshError):
    """A paper is not accepted."""


class ShapeError(MeshError):
    """A value is not of the shape that is asked for."""


class LiveError(MeshError):
    """An object does not do what it is told at this moment."""


class TextError(MeshError):
    """A text cannot be read."""


class InvalidPaper(PaperError):
    """A checker refuses a paper: the word says why, at says where."""

    def __init__(self, word, at):
        self.word = word
        self.at = at


class NotUsable(ShapeError):
    """The parameter called word is not as stated; at is -1, or the place in it."""

    def __init__(self, word, at):
        self.word = word
        self.at = at


class NotClosed(ShapeError):
    """A point is there without one of its needs."""

    def __init__(self, point, need):
        self.point = point
        self.need = need


class StillNeeded(ShapeError):
    """A point cannot go, as another one needs it."""

    def __init__(self, point, other):
        self.point = point
        self.other = other


class CutRoot(ShapeError):
    """A root is cut by the region of a solid."""

    def __init__(self, root):
        self.root = root


class EmptySolid(ShapeError):
    """A solid would have no root."""

    def __init__(self):
        """There are no fields: an argument is an error of the call."""


class Refused(ShapeError):
    """No lot passes: the chain of musts shows it."""

    def __init__(self, chain):
        self.chain = chain


class NoDeed(LiveError):
    """Nothing can be done at this place."""

    def __init__(self, place):
        self.place = place


class NotStanding(LiveError):
    """No wish with this name stands."""

    def __init__(self, name):
        self.name = name


class InvalidText(TextError):
    """A text cannot be read: its line, and the place of the first wrong word or sign in it."""

    def __init__(self, line, at):
        self.line = line
        self.at = at


class InvalidForm(TextError):
    """A form cannot be read: its line, and the place of the first wrong sign in it."""

    def __init__(self, line, at):
        self.line = line
        self.at = at
