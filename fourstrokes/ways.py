"""The two ways of strokes, and what goes along them."""

from fourstrokes.boxes import ACROSS
from fourstrokes.kinds import is_word

# In the order of the axes along which they lead.
WAYS = ("level", "upright")


def is_way(thing):
    """Whether a thing is a word for a way."""
    return is_word(thing, WAYS)


def axis_of(way):
    """The axis along which boxes go in strokes of this way."""
    return WAYS.index(way)


def edges(places, axis):
    """The left edges at these places, or the upper ones, as the axis is."""
    return tuple([place[axis] for place in places])


def with_edges(places, axis, goals):
    """These places with other edges along the axis."""
    if axis == ACROSS:
        return tuple([(goal, place[1]) for goal, place in zip(goals, places)])
    return tuple([(place[0], goal) for goal, place in zip(goals, places)])


def stacked(boxes, axis, order):
    """Edges along the axis at which the boxes stand in this order, each one beginning where the one ahead ends."""
    found = [0] * boxes.many
    edge = 0
    for box in order:
        found[box] = edge
        edge += boxes.sizes[box][axis]
    return tuple(found)
