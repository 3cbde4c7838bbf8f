"""A live page: boxes that are led, changed, and all of it taken back."""

from fourstrokes.boards import shortest
from fourstrokes.boxes import MOST_BOXES, Boxes, check_picture, is_size, overlapping
from fourstrokes.columns import barring, check_width, column_script, lies_within, widths_of
from fourstrokes.errors import (
    Barred, Full, Last, NoBox, NoPlaces, NoRoom, NoSize, NotFree, NothingDone, NotWithin, NoWidth,
)
from fourstrokes.kinds import is_integer_from, is_integers
from fourstrokes.routes import NO_RULES, shortest_route
from fourstrokes.strokes import behind, check_stroke, hit_of


class Page:
    """Boxes in a picture, on a board or within a column, and the deeds that brought them there.

    A state is a triple (boxes, picture, strokes), strokes being how many were done since the beginning. The states are
    those ahead of and behind each deed, undone ones too; at is the number of deeds that are not undone. Their tuple is
    never changed but replaced, so that a copy and a trial can go on from it apart.
    """

    def __init__(self, boxes, picture, width):
        check_picture(boxes, picture)
        if width is not None:
            check_width(boxes, width)
        if not stays_within(boxes, width, picture):
            raise NotWithin()
        self._width = width
        self._states = ((boxes, picture, 0),)
        self._at = 0

    def boxes(self):
        """The boxes as they are now."""
        return self._states[self._at][0]

    def picture(self):
        """Where they are now."""
        return self._states[self._at][1]

    def width(self):
        """The width of the column, None on a board."""
        return self._width

    def strokes(self):
        """How many strokes were done since the beginning and are not undone."""
        return self._states[self._at][2]

    def deeds(self):
        """How many changes can be undone."""
        return self._at

    def stroke(self, stroke):
        """Does a stroke."""
        check_stroke(self.boxes(), stroke)
        if hit_of(self.boxes(), self.picture(), stroke) is not None:
            raise NotFree(0)
        places = behind(self.picture(), stroke)
        if not stays_within(self.boxes(), self._width, places):
            raise NotWithin()
        self._go_on(self.boxes(), places, 1)

    def lead(self, picture):
        """Leads all boxes to another picture."""
        self._go_on(self.boxes(), picture, len(self._script_to(picture)))

    def nudge(self, box, x, y):
        """Leads one box alone to a place."""
        check_box(self.boxes(), box)
        check_place(x, y)
        places = self.picture()[:box] + ((x, y),) + self.picture()[box + 1:]
        script = shortest_route(self.boxes(), self.picture(), places, NO_RULES, 2)
        if script is None or not stays_within(self.boxes(), self._width, places):
            raise NoRoom()
        self._go_on(self.boxes(), places, len(script))

    def grow(self, box, width, height):
        """Gives a box another size at its place."""
        check_box(self.boxes(), box)
        check_size(width, height)
        sizes = self.boxes().sizes
        self._fit(sizes[:box] + ((width, height),) + sizes[box + 1:], self.picture())

    def add(self, width, height, x, y):
        """Adds a box behind all others."""
        check_size(width, height)
        check_place(x, y)
        if self.boxes().many == MOST_BOXES:
            raise Full()
        self._fit(self.boxes().sizes + ((width, height),), self.picture() + ((x, y),))

    def drop(self, box):
        """Takes a box away."""
        check_box(self.boxes(), box)
        if self.boxes().many == 1:
            raise Last()
        sizes = self.boxes().sizes
        self._go_on(Boxes(sizes[:box] + sizes[box + 1:]), self.picture()[:box] + self.picture()[box + 1:], 0)

    def undo(self):
        """Takes the last change back."""
        if self._at == 0:
            raise NothingDone()
        self._at -= 1

    def redo(self):
        """Does the change again that was taken back last."""
        if self._at + 1 == len(self._states):
            raise NothingDone()
        self._at += 1

    def copy(self):
        """Another page with the same deeds, that goes on apart."""
        other = Page(self.boxes(), self.picture(), self._width)
        other._states = self._states
        other._at = self._at
        return other

    def trying(self, action):
        """What an action returns that is called with the page; all that it changes is as ahead behind it."""
        states = self._states
        at = self._at
        try:
            return action(self)
        finally:
            self._states = states
            self._at = at

    def _go_on(self, boxes, picture, strokes):
        """Comes to another state by a deed of so many strokes."""
        state = (boxes, picture, self.strokes() + strokes)
        self._states = self._states[:self._at + 1] + (state,)
        self._at += 1

    def _script_to(self, picture):
        """The script by which the page is led to another picture, or the error that none is."""
        if self._width is None:
            return shortest(self.boxes(), self.picture(), picture)
        pair = barring(self.boxes(), self._width, self.picture(), picture)
        if pair is not None:
            raise Barred(pair[0], pair[1])
        return column_script(self.boxes(), self._width, self.picture(), picture)

    def _fit(self, sizes, places):
        """Goes on with boxes of these sizes at these places, if they have room there."""
        boxes = Boxes(sizes)
        if self._width is not None and max(widths_of(boxes)) > self._width:
            raise NoWidth()
        if overlapping(boxes, places) or not stays_within(boxes, self._width, places):
            raise NoRoom()
        self._go_on(boxes, places, 0)


def stays_within(boxes, width, places):
    """Whether all boxes are within a column of this width; a board, without a width, has no sides."""
    return width is None or lies_within(boxes, width, places)


def check_box(boxes, thing):
    """Raises NoBox for what is no number of a box."""
    if not is_integer_from(thing, 0, boxes.many - 1):
        raise NoBox()


def check_place(x, y):
    """Raises NoPlaces for what is no integer."""
    if not is_integers((x, y), 2):
        raise NoPlaces()


def check_size(width, height):
    """Raises NoSize for what is no size that a box may have."""
    if not is_size((width, height)):
        raise NoSize()
