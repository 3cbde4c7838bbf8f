"""Scripts that lead from one picture to another one, by told ways or by as few strokes as can be."""

from fourstrokes.books import book_along
from fourstrokes.orders import merged, peeled
from fourstrokes.scripts import walk
from fourstrokes.ways import axis_of, edges, stacked

# Four strokes by turns always lead there, whichever way begins.
LEVEL_FIRST = ("level", "upright", "level", "upright")
UPRIGHT_FIRST = ("upright", "level", "upright", "level")
MOST_NEEDED = 4

NO_RULES = ((), ())


def shortest_route(boxes, one, other, rules, most=MOST_NEEDED):
    """A script of as few free strokes as can be that leads there and keeps the rules at every moment.

    None if more than most are needed. At most two strokes also tell that they can't lead to places that overlap.
    """
    for many in range(most + 1):
        for ways in (LEVEL_FIRST[:many], UPRIGHT_FIRST[:many]):
            script = route(boxes, one, other, ways, rules)
            if script is not None:
                return script
    return None


def route(boxes, one, other, ways, rules):
    """A script of free strokes of these ways that leads there and keeps the rules, None if there is none.

    Both pictures keep the rules. At every moment of a stroke they are kept if they are at both its ends.
    """
    if len(ways) < 3:
        return straight_route(boxes, one, other, ways)
    if len(ways) == 3:
        return three_route(boxes, one, other, ways, rules)
    return four_route(boxes, one, other, ways, rules)


def straight_route(boxes, one, other, ways):
    """Strokes that go to the other picture's edges at once."""
    script = homeward(other, ways)
    found = walk(boxes, one, script)
    if len(found) > len(script) and found[-1] == other:
        return script
    return None


def three_route(boxes, one, other, ways, rules):
    """Three strokes, the first one spreading the boxes as suits both pictures."""
    axis = axis_of(ways[0])
    goals = spread(boxes, axis, [book_along(boxes, one, axis), book_along(boxes, other, axis), rules[axis]])
    if goals is None:
        return None
    return ((ways[0], goals),) + homeward(other, ways[1:])


def four_route(boxes, one, other, ways, rules):
    """Four strokes or more: one spreads the boxes as suits the one picture, one as suits the other one."""
    axis = axis_of(ways[0])
    away = spread(boxes, axis, [book_along(boxes, one, axis), rules[axis]])
    back = spread(boxes, 1 - axis, [book_along(boxes, other, 1 - axis), rules[1 - axis]])
    return ((ways[0], away), (ways[1], back)) + homeward(other, ways[2:])


def homeward(other, ways):
    """Strokes of these ways, each of which goes to the edges that the boxes have in the other picture."""
    return tuple([(way, edges(other, axis_of(way))) for way in ways])


def spread(boxes, axis, books):
    """Edges along the axis that keep the books, no box beside another one; None if these have a ring."""
    order, rest = peeled(boxes.many, merged(books))
    if rest:
        return None
    return stacked(boxes, axis, order)
