"""How few strokes lead from one picture to another one, and what stands against three of them."""

from fourstrokes.books import book_along, is_ring
from fourstrokes.boxes import check_picture
from fourstrokes.errors import NoWay, NoWays
from fourstrokes.kinds import is_integer_from, is_tuple_of
from fourstrokes.orders import links, merged, ring_in
from fourstrokes.routes import NO_RULES, route, shortest_route
from fourstrokes.ways import axis_of, is_way

MOST_WAYS = 8


def fewest(boxes, one, other):
    """How few free strokes lead from the one picture to the other one."""
    return len(shortest(boxes, one, other))


def shortest(boxes, one, other):
    """A script of as few free strokes as can be from the one picture to the other one."""
    check_pictures(boxes, one, other)
    return shortest_route(boxes, one, other, NO_RULES)


def script_by(boxes, one, other, ways):
    """A script of free strokes of these ways from the one picture to the other one, None if there is none."""
    check_pictures(boxes, one, other)
    if not is_ways(ways):
        raise NoWays()
    return route(boxes, one, other, ways, NO_RULES)


def twist(boxes, one, other, way):
    """What stands against three strokes that begin with this way, None if nothing does."""
    books = books_along(boxes, one, other, way)
    found = ring_in(boxes.many, merged(books))
    if found is None:
        return None
    return tuple([(link[0], 0 if link in books[0] else 1) for link in links(found)])


def is_twist(boxes, one, other, way, thing):
    """Whether a thing is a twist of the two pictures for this way."""
    books = books_along(boxes, one, other, way)
    if not isinstance(thing, tuple) or not all([is_mark(boxes, item) for item in thing]):
        return False
    things = tuple([box for box, _ in thing])
    if not is_ring(boxes.many, merged(books), things):
        return False
    return all([link in books[which] for link, (_, which) in zip(links(things), thing)])


def is_mark(boxes, thing):
    """Whether a thing is a pair of a box and the number of one of two books."""
    return is_tuple_of(thing, 2) and is_integer_from(thing[0], 0, boxes.many - 1) and is_integer_from(thing[1], 0, 1)


def books_along(boxes, one, other, way):
    """The books of both pictures for a way, behind the errors of twists."""
    check_pictures(boxes, one, other)
    if not is_way(way):
        raise NoWay()
    axis = axis_of(way)
    return (book_along(boxes, one, axis), book_along(boxes, other, axis))


def check_pictures(boxes, one, other):
    """Raises NoPicture for either that is none."""
    check_picture(boxes, one)
    check_picture(boxes, other)


def is_ways(thing):
    """Whether a thing is a tuple of ways by turns, few enough."""
    if not isinstance(thing, tuple) or len(thing) > MOST_WAYS:
        return False
    if not all([is_way(item) for item in thing]):
        return False
    return all([way != following for way, following in zip(thing, thing[1:])])
