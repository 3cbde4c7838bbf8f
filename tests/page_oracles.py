"""A live page, kept once more in the plainest way, and deeds for it."""

import list_oracles
import oracles
from fourstrokes.boxes import Boxes
from fourstrokes.columns import column_script
from fourstrokes.errors import (
    Barred, Full, Last, NoBox, NoPicture, NoPlaces, NoRoom, NoSize, NoStroke, NotFree, NothingDone, NotWithin, NoWidth,
)
from list_oracles import ListSamples


class Refused(Exception):
    """A deed that can't be done, with the error that is due, and its fields."""


def refuse(*told):
    raise Refused(*told)


class PageModel:
    """The sizes, the picture and the strokes behind each deed; and those of the deeds that were taken back."""

    def __init__(self, sizes, picture, width):
        self.wide = width
        self.done = [(sizes, picture, 0)]
        self.undone = []

    def look(self):
        """What a page tells of itself."""
        sizes, picture, strokes = self.done[-1]
        return (sizes, picture, self.wide, len(self.done) - 1, strokes)

    def within(self, sizes, places):
        return self.wide is None or list_oracles.within(sizes, self.wide, places)

    def do(self, deed, arguments):
        """Does a deed; None, or the error that is due, as (class, fields ..)."""
        try:
            state = getattr(self, "do_" + deed)(*self.done[-1], *arguments)
        except Refused as refused:
            return refused.args
        if state is not None:
            self.done.append(state)
            self.undone.clear()
        return None

    def do_stroke(self, sizes, picture, strokes, stroke):
        oracles.right_stroke(sizes, stroke) or refuse(NoStroke)
        oracles.free_by_fact(sizes, picture, stroke) or refuse(NotFree, 0)
        self.within(sizes, oracles.moved(picture, stroke)) or refuse(NotWithin)
        return (sizes, oracles.moved(picture, stroke), strokes + 1)

    def do_lead(self, sizes, picture, strokes, goal):
        oracles.right_picture(sizes, goal) or refuse(NoPicture)
        self.within(sizes, goal) or refuse(NotWithin)
        if self.wide is None:
            return (sizes, goal, strokes + oracles.fewest(sizes, picture, goal))
        pair = list_oracles.barring(sizes, self.wide, picture, goal)
        pair is None or refuse(Barred, *pair)
        return (sizes, goal, strokes + len(column_script(Boxes(sizes), self.wide, picture, goal)))

    def do_nudge(self, sizes, picture, strokes, box, x, y):
        oracles.integer(box) and 0 <= box < len(sizes) or refuse(NoBox)
        oracles.integer(x) and oracles.integer(y) or refuse(NoPlaces)
        goal = tuple((x, y) if each == box else place for each, place in enumerate(picture))
        for ways in ((), ("level",), ("upright",), ("level", "upright"), ("upright", "level")):
            script = oracles.straight(picture, goal, ways)
            free = oracles.right_script(sizes, picture, script)
            if free and oracles.trail(picture, script)[-1] == goal and self.within(sizes, goal):
                return (sizes, goal, strokes + len(ways))
        refuse(NoRoom)

    def room(self, sizes, picture, strokes):
        self.wide is None or max(width for width, _ in sizes) <= self.wide or refuse(NoWidth)
        oracles.right_picture(sizes, picture) and self.within(sizes, picture) or refuse(NoRoom)
        return (sizes, picture, strokes)

    def size(self, *told):
        all(oracles.integer(length) and 1 <= length <= 1000 for length in told) or refuse(NoSize)
        return told

    def do_grow(self, sizes, picture, strokes, box, width, height):
        oracles.integer(box) and 0 <= box < len(sizes) or refuse(NoBox)
        size = self.size(width, height)
        return self.room(sizes[:box] + (size,) + sizes[box + 1:], picture, strokes)

    def do_add(self, sizes, picture, strokes, width, height, x, y):
        size = self.size(width, height)
        oracles.integer(x) and oracles.integer(y) or refuse(NoPlaces)
        len(sizes) < 40 or refuse(Full)
        return self.room(sizes + (size,), picture + ((x, y),), strokes)

    def do_drop(self, sizes, picture, strokes, box):
        oracles.integer(box) and 0 <= box < len(sizes) or refuse(NoBox)
        len(sizes) > 1 or refuse(Last)
        return (sizes[:box] + sizes[box + 1:], picture[:box] + picture[box + 1:], strokes)

    def do_undo(self, *_):
        len(self.done) > 1 or refuse(NothingDone)
        self.undone.append(self.done.pop())

    def do_redo(self, *_):
        self.undone or refuse(NothingDone)
        self.done.append(self.undone.pop())


class PageSamples(ListSamples):
    """Deeds that look as if drawn at random, always the same ones; some can't be done."""

    def deed(self, model):
        sizes, picture, _ = model.done[-1]
        kinds = ("stroke", "stroke", "lead", "nudge", "nudge", "nudge", "grow", "grow", "add", "drop", "undo", "redo")
        kind = kinds[self.number(0, len(kinds) - 1)]
        box = self.number(-1, len(sizes)) if self.number(0, 9) == 0 else self.number(0, len(sizes) - 1)
        x, y = self.near(picture, box)
        if kind == "stroke":
            return kind, (self.stroke(picture, 1 + self.number(0, 1)),)
        if kind == "lead":
            return kind, (self.goal(sizes, picture, model.wide),)
        if kind == "nudge":
            return kind, (box, x, y)
        if kind == "grow":
            return kind, (box, self.number(0, 4), self.number(1, 4))
        if kind == "add":
            return kind, (self.number(1, 3), self.number(1, 3), x + self.number(-4, 4), y + self.number(-4, 4))
        return kind, ((box,) if kind == "drop" else ())

    def near(self, picture, box):
        x, y = picture[box] if 0 <= box < len(picture) else (0, 0)
        return x + self.number(-2, 2) * self.number(0, 1), y + self.number(-2, 2) * self.number(0, 1)

    def goal(self, sizes, picture, width):
        """A picture to lead to: within or not, or one that is none."""
        kind = self.number(0, 5)
        if kind == 0:
            return self.places(sizes, 3)
        if kind == 1 or width is None:
            return self.picture(sizes)
        if kind < 4:
            return self.column_picture(sizes, width)
        return self.column_neighbour(sizes, width, picture, self.number(1, 6))
