"""Rules of what is to stand at the left of what, and above what, and strokes that keep them."""

from fourstrokes.books import is_book
from fourstrokes.boxes import ACROSS, DOWN, check_picture, is_picture
from fourstrokes.errors import NoRules, NotKept
from fourstrokes.kinds import is_tuple_of
from fourstrokes.routes import shortest_route


def is_keeping(boxes, rules, thing):
    """Whether a thing is a picture that keeps the rules."""
    check_rules(boxes, rules)
    return is_picture(boxes, thing) and keeps(boxes, rules, thing)


def fewest_kept(boxes, rules, one, other):
    """How few free strokes lead there, the rules kept at every moment."""
    return len(shortest_kept(boxes, rules, one, other))


def shortest_kept(boxes, rules, one, other):
    """A script of as few free strokes as can be that leads there, the rules kept at every moment."""
    check_rules(boxes, rules)
    check_picture(boxes, one)
    check_picture(boxes, other)
    if not keeps(boxes, rules, one) or not keeps(boxes, rules, other):
        raise NotKept()
    return shortest_route(boxes, one, other, rules)


def check_rules(boxes, thing):
    """Raises NoRules for what is no pair of books of these boxes."""
    if not is_tuple_of(thing, 2) or not all([is_book(boxes.many, book) for book in thing]):
        raise NoRules()


def keeps(boxes, rules, picture):
    """Whether a picture keeps the rules."""
    return all([keeps_along(boxes, rules[axis], picture, axis) for axis in (ACROSS, DOWN)])


def keeps_along(boxes, book, picture, axis):
    """Whether in each pair of the book the first box ends along the axis before the second one begins."""
    return all([
        picture[one][axis] + boxes.sizes[one][axis] <= picture[other][axis]
        for one, other in book
    ])
