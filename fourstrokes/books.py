"""Books of pairs: what is left of what, what is above what; their rings and their orders."""

from itertools import permutations

from fourstrokes.boxes import ACROSS, DOWN, MOST_BOXES, check_picture, shares
from fourstrokes.errors import BadBook, NoNumber, TooMany
from fourstrokes.kinds import is_integer_from, is_tuple_of
from fourstrokes.orders import completions, links, needs, numbered, ring_in

MOST_ORDERED = 14


def left_of(boxes, picture):
    """The book of the pairs in one row, the first one at the left."""
    check_picture(boxes, picture)
    return book_along(boxes, picture, ACROSS)


def above(boxes, picture):
    """The book of the pairs in one column, the first one above."""
    check_picture(boxes, picture)
    return book_along(boxes, picture, DOWN)


def book_along(boxes, picture, axis):
    """The book of the pairs that would meet if they went along the axis, the nearer one first."""
    return tuple([
        (one, other)
        for one, other in permutations(range(boxes.many), 2)
        if picture[one][axis] < picture[other][axis] and shares(boxes, picture, 1 - axis, one, other)
    ])


def ring(many, book):
    """A ring of the book, None if it has none."""
    check_book(many, book)
    return ring_in(many, book)


def is_ring(many, book, thing):
    """Whether a thing is a ring of the book."""
    check_book(many, book)
    if not isinstance(thing, tuple) or not 2 <= len(thing) <= many:
        return False
    if not all([is_integer_from(item, 0, many - 1) for item in thing]):
        return False
    if len(set(thing)) < len(thing) or thing[0] != min(thing):
        return False
    return all([link in book for link in links(thing)])


def passed_on(many, book):
    """The book of the pairs of unlike things of which the one leads to the other by pairs of the book."""
    check_book(many, book)
    reached = [[False] * many for _ in range(many)]
    for one, other in book:
        reached[one][other] = True
    for middle in range(many):
        for one in range(many):
            if reached[one][middle]:
                reached[one] = [far or farther for far, farther in zip(reached[one], reached[middle])]
    return tuple([pair for pair in permutations(range(many), 2) if reached[pair[0]][pair[1]]])


def count_orders(many, book):
    """How many orders of the things keep the book."""
    check_ordered(many, book)
    return completions(needs(many, book))[0]


def order_at(many, book, number):
    """The order with this number, ascending, among those that keep the book."""
    check_ordered(many, book)
    needed = needs(many, book)
    table = completions(needed)
    if not is_integer_from(number, 0, table[0] - 1):
        raise NoNumber()
    return numbered(needed, table, number)


def check_ordered(many, book):
    """Raises the errors of what is no book of things few enough for their orders to be counted."""
    check_book(many, book)
    if many > MOST_ORDERED:
        raise TooMany(MOST_ORDERED)


def check_book(many, book):
    """Raises NoNumber for what is no number of things, BadBook for what is no book of so many."""
    if not is_integer_from(many, 1, MOST_BOXES):
        raise NoNumber()
    fault = book_fault(many, book)
    if fault is not None:
        raise BadBook(fault)


def is_book(many, thing):
    """Whether a thing is a book of so many things."""
    return book_fault(many, thing) is None


def book_fault(many, thing):
    """None for a book, -1 for what is no tuple, else the number of the first wrong item."""
    if not isinstance(thing, tuple):
        return -1
    ahead = ()
    for index, item in enumerate(thing):
        if not is_unlike_pair(many, item) or item <= ahead:
            return index
        ahead = item
    return None


def is_unlike_pair(many, thing):
    """Whether a thing is a pair of unlike numbers below many."""
    if not is_tuple_of(thing, 2) or not all([is_integer_from(item, 0, many - 1) for item in thing]):
        return False
    return thing[0] != thing[1]
