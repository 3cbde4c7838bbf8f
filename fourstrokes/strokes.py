"""Strokes: all boxes go along their rows, or along their columns, at once."""

from itertools import combinations

from fourstrokes.boxes import check_picture, shares
from fourstrokes.errors import NoMoment, NoStroke
from fourstrokes.kinds import is_fraction, is_integers, is_less, is_tuple_of, lowest
from fourstrokes.ways import axis_of, is_way, with_edges


def moved(boxes, picture, stroke):
    """The places behind a stroke, free or not."""
    check_picture(boxes, picture)
    check_stroke(boxes, stroke)
    return behind(picture, stroke)


def places_at(boxes, picture, stroke, moment):
    """A pair of fractions for each box: where it is at a moment of the stroke."""
    check_picture(boxes, picture)
    check_stroke(boxes, stroke)
    if not is_moment(moment):
        raise NoMoment()
    return tuple([
        (between(x, goal_x, moment), between(y, goal_y, moment))
        for (x, y), (goal_x, goal_y) in zip(picture, behind(picture, stroke))
    ])


def is_free(boxes, picture, thing):
    """Whether a thing is a stroke in which no two boxes ever overlap."""
    check_picture(boxes, picture)
    return is_stroke(boxes, thing) and hit_of(boxes, picture, thing) is None


def first_hit(boxes, picture, stroke):
    """None for a free stroke, else the moment up to which it is, and the least pair that overlaps behind that."""
    check_picture(boxes, picture)
    check_stroke(boxes, stroke)
    return hit_of(boxes, picture, stroke)


def is_stroke(boxes, thing):
    """Whether a thing is a pair of a way and a goal for each box."""
    return is_tuple_of(thing, 2) and is_way(thing[0]) and is_integers(thing[1], boxes.many)


def check_stroke(boxes, thing):
    """Raises NoStroke for what is no stroke of these boxes."""
    if not is_stroke(boxes, thing):
        raise NoStroke()


def is_moment(thing):
    """Whether a thing is a fraction from 0 to 1."""
    return is_fraction(thing) and 0 <= thing[0] <= thing[1]


def behind(places, stroke):
    """The places behind what surely is a stroke."""
    way, goals = stroke
    return with_edges(places, axis_of(way), goals)


def between(begin, end, moment):
    """The fraction that something evenly led from begin to end has come to."""
    top, bottom = moment
    return lowest(begin * bottom + (end - begin) * top, bottom)


def hit_of(boxes, picture, stroke):
    """What first_hit tells, of what surely are a picture and a stroke."""
    way, goals = stroke
    axis = axis_of(way)
    first = None
    for one, other in combinations(range(boxes.many), 2):
        if shares(boxes, picture, 1 - axis, one, other):
            moment = meeting(boxes, picture, axis, goals, one, other)
            # The pairs come ascending, so that of one moment the least is kept.
            if moment is not None and (first is None or is_less(moment, first[0])):
                first = (moment, one, other)
    return first


def meeting(boxes, picture, axis, goals, one, other):
    """The moment behind which two boxes in one row or column overlap, None if they never do."""
    near, far = one, other
    if picture[far][axis] < picture[near][axis]:
        near, far = other, one
    length = boxes.sizes[near][axis]
    gap = picture[far][axis] - picture[near][axis] - length
    gap_at_end = goals[far] - goals[near] - length
    if gap_at_end >= 0:
        return None
    return lowest(gap, gap - gap_at_end)
