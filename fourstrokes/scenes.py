"""Scenes: routines of statements by which places are worked out."""

from fourstrokes.errors import BadScene
from fourstrokes.kinds import is_integer_from, is_tuple_of, is_word

MOST_CELLS = 5
MOST_ROUTINES = 5
MOST_DEEP = 8
MOST_STATEMENTS = 60
GREATEST = 1000

COMPARISONS = ("less", "same")
MEASURES = ("width", "height", "left", "top")

# For the word of each statement what stands behind it.
FORMS = {
    "set": ("cell", "sum"),
    "put": ("sum", "sum", "sum"),
    "ask": ("cell", "measure", "sum"),
    "call": ("routine",),
    "if": ("test", "body", "body"),
    "while": ("test", "body"),
}


class Scene:
    """So many cells, and the routines, each a body of statements."""

    def __init__(self, cells, routines):
        if not is_integer_from(cells, 1, MOST_CELLS):
            raise BadScene(("cells",))
        if not isinstance(routines, tuple) or not 1 <= len(routines) <= MOST_ROUTINES:
            raise BadScene(("routines",))
        for number, routine in enumerate(routines):
            if not is_body(cells, len(routines), routine, 1) or statements_in(routine) > MOST_STATEMENTS:
                raise BadScene(("routine", number))
        self.cells = cells
        self.routines = routines

    def __eq__(self, other):
        return isinstance(other, Scene) and self.cells == other.cells and self.routines == other.routines


def is_body(cells, many, thing, depth):
    """Whether a thing is a body so deep in one of so many routines."""
    if not isinstance(thing, tuple) or depth > MOST_DEEP:
        return False
    return all([is_statement(cells, many, item, depth) for item in thing])


def is_statement(cells, many, thing, depth):
    """Whether a thing is a statement of a body so deep in one of so many routines."""
    if not isinstance(thing, tuple) or not thing or not is_word(thing[0], list(FORMS)):
        return False
    form = FORMS[thing[0]]
    if len(thing) != len(form) + 1:
        return False
    return all([is_part(cells, many, kind, item, depth) for kind, item in zip(form, thing[1:])])


def is_part(cells, many, kind, thing, depth):
    """Whether a thing is such a part of a statement of a body so deep."""
    if kind == "cell":
        return is_integer_from(thing, 0, cells - 1)
    if kind == "routine":
        return is_integer_from(thing, 0, many - 1)
    if kind == "measure":
        return is_word(thing, MEASURES)
    if kind == "test":
        return is_test(cells, thing)
    if kind == "body":
        return is_body(cells, many, thing, depth + 1)
    return is_sum(cells, thing)


def is_sum(cells, thing):
    """Whether a thing is a multiple of each cell, and a number that is added."""
    return is_tuple_of(thing, cells + 1) and all([is_integer_from(item, -GREATEST, GREATEST) for item in thing])


def is_test(cells, thing):
    """Whether a thing is a comparison of two sums."""
    return is_tuple_of(thing, 3) and is_word(thing[0], COMPARISONS) and all([is_sum(cells, item) for item in thing[1:]])


def statements_in(body):
    """How many statements are in a body, wherever they stand."""
    return sum([1 + sum([statements_in(inner) for inner in bodies_in(statement)]) for statement in body])


def bodies_in(statement):
    """The list of the bodies of a statement."""
    return [item for kind, item in zip(FORMS[statement[0]], statement[1:]) if kind == "body"]
