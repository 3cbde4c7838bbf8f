"""Lists: boxes one below another, and the passes by which a list becomes another one."""

from itertools import combinations

from fourstrokes.boxes import ACROSS, DOWN, check_picture, shares
from fourstrokes.columns import check_width, lies_within, widths_of
from fourstrokes.errors import NoList
from fourstrokes.kinds import is_integers
from fourstrokes.turns import breadth, broadest_lot, is_list, left_edges, turned_pairs
from fourstrokes.ways import edges, stacked


def listed(boxes, order):
    """The picture in which the boxes of a list stand one right below another."""
    check_lists(boxes, (order,))
    return tuple([(0, top) for top in stacked(boxes, DOWN, order)])


def list_of(boxes, picture):
    """The list as which the boxes stand, None if two are in one row."""
    check_picture(boxes, picture)
    if any([shares(boxes, picture, DOWN, one, other) for one, other in combinations(range(boxes.many), 2)]):
        return None
    return tuple([box for _, box in sorted(zip(edges(picture, DOWN), range(boxes.many)))])


def turned(boxes, one, other):
    """The ascending list of the pairs of boxes that stand in unlike order in both lists."""
    check_lists(boxes, (one, other))
    return turned_pairs(one, other)


def can_pass(boxes, width, one, other):
    """Whether the one list becomes the other one in a pass."""
    check_pass(boxes, width, one, other)
    return breadth(widths_of(boxes), one, other) <= width


def stand(boxes, width, one, other):
    """A stand for a pass from the one list to the other one, None if there is none."""
    if not can_pass(boxes, width, one, other):
        return None
    return left_edges(widths_of(boxes), one, other)


def is_stand(boxes, width, one, other, thing):
    """Whether a thing is a stand for a pass from the one list to the other one."""
    check_pass(boxes, width, one, other)
    if not is_integers(thing, boxes.many):
        return False
    places = [(edge, 0) for edge in thing]
    if not lies_within(boxes, width, places):
        return False
    return not any([shares(boxes, places, ACROSS, near, far) for near, far in turned_pairs(one, other)])


def broadest(boxes, one, other):
    """A turned lot of the greatest width in all."""
    check_lists(boxes, (one, other))
    return broadest_lot(widths_of(boxes), one, other)


def check_lists(boxes, things):
    """Raises NoList for the first thing that is no list of these boxes."""
    for thing in things:
        if not is_list(boxes.many, thing):
            raise NoList()


def check_pass(boxes, width, one, other):
    """Raises the errors of what are no width and two lists."""
    check_width(boxes, width)
    check_lists(boxes, (one, other))
