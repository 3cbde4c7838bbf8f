"""Passes one behind the other: how few lead from a list to another one, and figures of boxes of one width."""

from itertools import permutations

from fourstrokes.boxes import MOST_BOXES
from fourstrokes.columns import check_width, widths_of
from fourstrokes.errors import NoFigures, NoLanes, NoList, TooMany
from fourstrokes.kinds import is_integer_from
from fourstrokes.lists import check_lists, check_pass
from fourstrokes.turns import breadth, is_list, ranks

MOST_LANES = 40
MOST_COUNTED = 7
MOST_PASSED = 5


def lists_in_pass(boxes, width, order):
    """How many lists the list becomes in a pass, itself counted."""
    check_width(boxes, width)
    check_lists(boxes, (order,))
    check_few(boxes, MOST_COUNTED)
    widths = widths_of(boxes)
    return sum([1 for following in permutations(range(boxes.many)) if breadth(widths, order, following) <= width])


def fewest_passes(boxes, width, one, other):
    """How few passes lead from the one list to the other one, None if none do."""
    found = passes(boxes, width, one, other)
    return None if found is None else len(found) - 1


def passes(boxes, width, one, other):
    """Lists from the one to the other one, each made of the one ahead in a pass, as few as can be, or None."""
    check_pass(boxes, width, one, other)
    check_few(boxes, MOST_PASSED)
    ahead = origins(widths_of(boxes), width, one)
    if other not in ahead:
        return None
    trail = [other]
    while trail[-1] != one:
        trail.append(ahead[trail[-1]])
    return tuple(trail[::-1])


def origins(widths, width, one):
    """For each list to which passes lead from the one list, the list ahead of it on a way of as few as can be."""
    ahead = {one: None}
    coming = [one]
    while coming:
        order = coming.pop(0)
        for following in permutations(range(len(one))):
            if following not in ahead and breadth(widths, order, following) <= width:
                ahead[following] = order
                coming.append(following)
    return ahead


def is_passing(lanes, thing):
    """Whether a thing is a tuple of lists of as many things, each of which becomes the next one in a pass."""
    check_lanes(lanes)
    if not isinstance(thing, tuple) or not thing or not is_order(thing[0]):
        return False
    many = len(thing[0])
    if not all([is_list(many, item) for item in thing]):
        return False
    return all([breadth([1] * many, one, other) <= lanes for one, other in zip(thing, thing[1:])])


def figures(lanes, one, other):
    """Lists from the one to the other one, each made of the one ahead in a pass, as many as any two may need."""
    check_lanes(lanes)
    check_orders(one, other)
    if lanes == 1 and len(one) > 1:
        raise NoFigures()
    goals = ranks(other)
    found = [one]
    worth = 1
    while worth < len(one):
        # Each pass sorts by one figure of the goals, told to the base of the lanes, the last figure first.
        signs = [goal // worth % lanes for goal in goals]
        found.append(dealt(found[-1], signs, lanes))
        worth *= lanes
    return tuple(found)


def dealt(order, signs, lanes):
    """The list in which the things of the first sign come first, those of one sign staying in their order."""
    return tuple([thing for lane in range(lanes) for thing in order if signs[thing] == lane])


def is_order(thing):
    """Whether a thing is a list of some things, few enough."""
    return isinstance(thing, tuple) and 1 <= len(thing) <= MOST_BOXES and is_list(len(thing), thing)


def check_few(boxes, most):
    """Raises TooMany for more than so many boxes."""
    if boxes.many > most:
        raise TooMany(most)


def check_lanes(thing):
    """Raises NoLanes for what is no number of lanes."""
    if not is_integer_from(thing, 1, MOST_LANES):
        raise NoLanes()


def check_orders(one, other):
    """Raises NoList for what are no two lists of as many things."""
    if not is_order(one) or not is_list(len(one), other):
        raise NoList()
