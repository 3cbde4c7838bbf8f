"""Columns of a told width: what lies within them, what bars the way, scripts that stay within."""

from itertools import combinations

from fourstrokes.boards import check_pictures
from fourstrokes.books import book_along
from fourstrokes.boxes import ACROSS, DOWN, is_picture
from fourstrokes.errors import NotWithin, NoWidth
from fourstrokes.kinds import is_integer_from
from fourstrokes.orders import peeled
from fourstrokes.routes import NO_RULES, UPRIGHT_FIRST, homeward, route
from fourstrokes.ways import stacked

BROADEST = 10 ** 6


def is_within(boxes, width, thing):
    """Whether a thing is a picture that lies within the column."""
    check_width(boxes, width)
    return is_picture(boxes, thing) and lies_within(boxes, width, thing)


def broad(boxes, width):
    """The ascending list of the pairs of boxes that together are broader than the column."""
    check_width(boxes, width)
    return broad_pairs(boxes, width)


def barring(boxes, width, one, other):
    """The least broad pair that is turned from the one picture to the other one, None if there is none."""
    check_column(boxes, width, one, other)
    for near, far in broad_pairs(boxes, width):
        # Broad boxes always are in one column, so that one of them is above.
        if (one[near][DOWN] < one[far][DOWN]) != (other[near][DOWN] < other[far][DOWN]):
            return (near, far)
    return None


def column_script(boxes, width, one, other):
    """A script of free strokes that leads there within the column, None if there is none of any length."""
    if barring(boxes, width, one, other) is not None:
        return None
    begin = order_down(boxes, one)
    strokes = [("upright", stacked(boxes, DOWN, begin))]
    for box, order in settlings(begin, order_down(boxes, other)):
        strokes.append(("level", aside(boxes, width, box)))
        strokes.append(("upright", stacked(boxes, DOWN, order)))
    return tuple(strokes) + homeward(other, ("level", "upright"))


def column_three(boxes, width, one, other):
    """Three strokes, an upright, a level, an upright one, that lead there within the column, None if none do."""
    check_column(boxes, width, one, other)
    # The left edges behind the level stroke are the other picture's, so that nothing leaves the column.
    return route(boxes, one, other, UPRIGHT_FIRST[:3], NO_RULES)


def check_width(boxes, thing):
    """Raises NoWidth for what is no width of a column in which each of these boxes has room."""
    if not is_integer_from(thing, max(widths_of(boxes)), BROADEST):
        raise NoWidth()


def check_column(boxes, width, one, other):
    """Raises the errors of what are no width and two pictures within."""
    check_width(boxes, width)
    check_pictures(boxes, one, other)
    for picture in (one, other):
        if not lies_within(boxes, width, picture):
            raise NotWithin()


def lies_within(boxes, width, places):
    """Whether no box at these places goes beyond a side of the column."""
    return all([
        0 <= place[ACROSS] and place[ACROSS] + broadness <= width
        for place, broadness in zip(places, widths_of(boxes))
    ])


def widths_of(boxes):
    """The list of how broad each box is."""
    return [size[ACROSS] for size in boxes.sizes]


def broad_pairs(boxes, width):
    """The list that broad tells, of what surely is a width."""
    widths = widths_of(boxes)
    return [pair for pair in combinations(range(boxes.many), 2) if widths[pair[0]] + widths[pair[1]] > width]


def order_down(boxes, picture):
    """A list of the boxes that keeps what is above what in the picture."""
    return peeled(boxes.many, book_along(boxes, picture, DOWN))[0]


def settlings(begin, end):
    """The pairs (box, list) by which begin becomes end: behind each one this box more has come up to its place.

    A box comes up only past such as stand behind it in end, so that no two that stand in one order pass each other.
    """
    found = []
    order = begin
    for place, box in enumerate(end):
        if order[place] != box:
            order = order[:place] + [box] + [waiting for waiting in order[place:] if waiting != box]
            found.append((box, order))
    return found


def aside(boxes, width, box):
    """Left edges by which this box is at the left side, all others at the right one."""
    return tuple([0 if each == box else width - broadness for each, broadness in enumerate(widths_of(boxes))])
