"""Boxes, their places, and the places at which no two overlap: pictures."""

from itertools import combinations

from fourstrokes.errors import BadBoxes, NoPicture, NoPlaces
from fourstrokes.kinds import is_integer_from, is_integers, is_tuple_of

MOST_BOXES = 40
LONGEST = 1000

# An axis is the index of what belongs to it in a size (width, height) and in a place (x, y).
ACROSS = 0
DOWN = 1


class Boxes:
    """So many boxes of these sizes, each a pair (width, height)."""

    def __init__(self, sizes):
        if not isinstance(sizes, tuple) or not 1 <= len(sizes) <= MOST_BOXES:
            raise BadBoxes(-1)
        for part, size in enumerate(sizes):
            if not is_size(size):
                raise BadBoxes(part)
        self.sizes = sizes
        self.many = len(sizes)

    def __eq__(self, other):
        return isinstance(other, Boxes) and self.sizes == other.sizes


def is_size(thing):
    """Whether a thing is a pair (width, height) that a box may have."""
    return is_tuple_of(thing, 2) and all([is_integer_from(length, 1, LONGEST) for length in thing])


def overlaps(boxes, places):
    """The ascending list of the pairs of boxes that overlap at these places."""
    if not is_places(boxes, places):
        raise NoPlaces()
    return overlapping(boxes, places)


def is_picture(boxes, thing):
    """Whether a thing is places at which no two boxes overlap."""
    return is_places(boxes, thing) and not overlapping(boxes, thing)


def is_places(boxes, thing):
    """Whether a thing is a tuple of a place (x, y) for each box."""
    return is_tuple_of(thing, boxes.many) and all([is_integers(place, 2) for place in thing])


def check_picture(boxes, thing):
    """Raises NoPicture for what is no picture of these boxes."""
    if not is_picture(boxes, thing):
        raise NoPicture()


def overlapping(boxes, places):
    """The ascending list of the pairs of boxes that overlap, at what surely are places."""
    return [
        (one, other)
        for one, other in combinations(range(boxes.many), 2)
        if shares(boxes, places, ACROSS, one, other) and shares(boxes, places, DOWN, one, other)
    ]


def shares(boxes, places, axis, one, other):
    """Whether two boxes have more than an edge in common along an axis: DOWN if they are in one row."""
    begin = places[one][axis]
    other_begin = places[other][axis]
    return begin < other_begin + boxes.sizes[other][axis] and other_begin < begin + boxes.sizes[one][axis]
