"""The errors of the package, all of them directly below StrokeError."""


class StrokeError(ValueError):
    """What all errors of the package have in common."""

    def __init__(self):
        """An error without fields is made with nothing."""


class BadBoxes(StrokeError):
    """Not the sizes of boxes: part is -1, or the number of the first that is no size."""

    def __init__(self, part):
        self.part = part


class NoPlaces(StrokeError):
    """Not a place for each box."""


class NoPicture(StrokeError):
    """Not places at which no two boxes overlap."""


class NoNumber(StrokeError):
    """Not a number, or none that is allowed there."""


class BadBook(StrokeError):
    """Not a book: index is -1, or the number of its first wrong item."""

    def __init__(self, index):
        self.index = index


class TooMany(StrokeError):
    """More than most are not worked out here."""

    def __init__(self, most):
        self.most = most


class NoStroke(StrokeError):
    """Not a way and a goal for each box."""


class NoMoment(StrokeError):
    """Not a fraction from 0 to 1."""


class NoScript(StrokeError):
    """Not a tuple of strokes, few enough."""


class NotFree(StrokeError):
    """Boxes overlap in the stroke with this number."""

    def __init__(self, number):
        self.number = number


class NoWays(StrokeError):
    """Not a tuple of ways by turns, few enough."""


class NoWay(StrokeError):
    """Not a word for a way."""


class NoRules(StrokeError):
    """Not a pair of books."""


class NotKept(StrokeError):
    """A picture does not keep the rules."""


class NoWidth(StrokeError):
    """Not a width that a column of these boxes may have."""


class NotWithin(StrokeError):
    """A picture does not lie within the column."""


class NoList(StrokeError):
    """Not a tuple of all numbers."""


class NoLanes(StrokeError):
    """Not a number of lanes."""


class NoFigures(StrokeError):
    """No passes lead there."""


class NoParting(StrokeError):
    """Not a parting of the two lists."""


class NoLists(StrokeError):
    """Not so many lists: index is -1, or the number of the first wrong one."""

    def __init__(self, index):
        self.index = index


class NoStep(StrokeError):
    """The thing with this number is no step that can be done, -1 if there are no steps at all."""

    def __init__(self, number):
        self.number = number


class BadScene(StrokeError):
    """Not a scene: part tells where."""

    def __init__(self, part):
        self.part = part


class NoContents(StrokeError):
    """Not an integer for each cell."""


class NoScene(StrokeError):
    """The scene works no picture out: why tells what is wrong."""

    def __init__(self, why):
        self.why = why


class NotRunning(StrokeError):
    """The run is over, or at a fault."""


class NothingDone(StrokeError):
    """There is nothing to take back, or to do again."""


class NoFilm(StrokeError):
    """Not a film: index is -1, or the number of the first that is no picture."""

    def __init__(self, index):
        self.index = index


class NoTime(StrokeError):
    """Not a fraction from 0 to the number of strokes."""


class Barred(StrokeError):
    """These two boxes bar the way through the column."""

    def __init__(self, one, other):
        self.one = one
        self.other = other


class NoBox(StrokeError):
    """Not the number of a box."""


class NoRoom(StrokeError):
    """A box has no room there."""


class NoSize(StrokeError):
    """Not a size that a box may have."""


class Full(StrokeError):
    """No box more can be kept."""


class Last(StrokeError):
    """The only box is not dropped."""


class BadText(StrokeError):
    """The line with this number, counted from 1, has not the form; 0 for what is no string."""

    def __init__(self, line):
        self.line = line


class NoDrawing(StrokeError):
    """Not a text that is drawn."""


class NoLine(StrokeError):
    """Not a line that a desk can do."""


class NoName(StrokeError):
    """Nothing is kept under this name."""

    def __init__(self, name):
        self.name = name
