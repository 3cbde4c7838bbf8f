"""Texts of scenes, told and read."""

from fourstrokes.errors import BadText
from fourstrokes.scenes import COMPARISONS, FORMS, MEASURES, MOST_CELLS, Scene, bodies_in
from fourstrokes.words import line_of, lines_of, number_of

# The sign of each comparison, in the order of their words.
SIGNS = ("<", "=")


def scene_text(scene):
    """The text of a scene."""
    lines = [line_of(["cells", str(scene.cells)])]
    for routine in scene.routines:
        lines.append(line_of(["routine"]))
        lines.extend(body_lines(routine))
    return "".join(lines)


def read_scene(text):
    """The scene that a text tells."""
    lines = lines_of(text)
    reader = SceneReader()
    for number, line in enumerate(lines[:-1], start=1):
        if not reader.take(line):
            raise BadText(number)
    if lines[-1] != "" or not reader.is_whole():
        raise BadText(len(lines))
    return reader.scene()


class SceneReader:
    """What the lines of a scene's text have told so far.

    Opened are the ifs and whiles that have not ended, the outermost first: for each the pair of its statement without
    bodies, and the list of its bodies, the last one still growing. So bodies may be nested as deep as a text likes.
    """

    def __init__(self):
        self._cells = None
        self._routines = []
        self._opened = []

    def take(self, line):
        """Takes one line more; False if it can't stand there."""
        if self._cells is None:
            self._cells = cells_in(line)
            return self._cells is not None
        if line == "routine":
            return self._take_routine()
        if line == "else":
            return self._take_else()
        if line == "end":
            return self._take_end()
        return self._take_statement(line)

    def is_whole(self):
        """Whether nothing lacks behind the lines that were taken."""
        return self._cells is not None and not self._opened

    def scene(self):
        """The scene that was told."""
        return Scene(self._cells, tuple([tuple(routine) for routine in self._routines]))

    def _take_routine(self):
        """Begins a routine; False within a body."""
        if self._opened:
            return False
        self._routines.append([])
        return True

    def _take_else(self):
        """Begins another body of a statement; False where it has none more."""
        if not self._opened or not self._lacks_body():
            return False
        self._opened[-1][1].append([])
        return True

    def _take_end(self):
        """Ends a statement with bodies; False where there is none, or a body lacks."""
        if not self._opened or self._lacks_body():
            return False
        head, bodies = self._opened.pop()
        self._body().append(head + tuple([tuple(body) for body in bodies]))
        return True

    def _take_statement(self, line):
        """Takes a statement, or the beginning of one with bodies; False ahead of all routines, or if it is none."""
        head = statement_in(self._cells, line)
        if head is None or not self._routines:
            return False
        if "body" in FORMS[head[0]]:
            self._opened.append((head, [[]]))
        else:
            self._body().append(head)
        return True

    def _lacks_body(self):
        """Whether the statement that was opened last has another body to come."""
        head, bodies = self._opened[-1]
        return len(bodies) < FORMS[head[0]].count("body")

    def _body(self):
        """The body that grows."""
        if self._opened:
            return self._opened[-1][1][-1]
        return self._routines[-1]


def body_lines(body):
    """The list of the lines of a body."""
    return [line for statement in body for line in statement_lines(statement)]


def statement_lines(statement):
    """The list of the lines of a statement."""
    form = FORMS[statement[0]]
    words = [part_text(kind, part) for kind, part in zip(form, statement[1:]) if kind != "body"]
    lines = [line_of([statement[0]] + words)]
    bodies = bodies_in(statement)
    if not bodies:
        return lines
    lines.extend(body_lines(bodies[0]))
    for body in bodies[1:]:
        lines.append(line_of(["else"]))
        lines.extend(body_lines(body))
    lines.append(line_of(["end"]))
    return lines


def part_text(kind, part):
    """What a part of a statement that is no body is in its line."""
    if kind == "sum":
        return sum_text(part)
    if kind == "test":
        word, one, other = part
        return " ".join([sum_text(one), SIGNS[COMPARISONS.index(word)], sum_text(other)])
    return part if kind == "measure" else str(part)


def sum_text(told):
    """The word of a sum."""
    terms = [multiple_text(multiple) + f"c{cell}" for cell, multiple in enumerate(told[:-1]) if multiple != 0]
    if told[-1] != 0 or not terms:
        terms.append(sign_of(told[-1]) + str(abs(told[-1])))
    return "".join(terms).removeprefix("+")


def multiple_text(multiple):
    """The sign of a multiple, and the multiple without it, unless it is 1."""
    return sign_of(multiple) + ("" if abs(multiple) == 1 else str(abs(multiple)))


def sign_of(number):
    """The sign of an integer."""
    return "-" if number < 0 else "+"


def cells_in(line):
    """How many cells a scene's first line tells, None if it has not the form."""
    words = line.split(" ")
    if len(words) != 2 or words[0] != "cells":
        return None
    cells = number_of(words[1])
    if cells is None or not 1 <= cells <= MOST_CELLS:
        return None
    return cells


def statement_in(cells, line):
    """The statement that a line tells, without its bodies, None if it has not the form."""
    words = line.split(" ")
    if words[0] not in FORMS:
        return None
    kinds = [kind for kind in FORMS[words[0]] if kind != "body"]
    if kinds == ["test"]:
        test = comparison_in(cells, words[1:])
        return None if test is None else (words[0], test)
    if len(words) != len(kinds) + 1:
        return None
    parts = [part_in(cells, kind, word) for kind, word in zip(kinds, words[1:])]
    return None if None in parts else (words[0],) + tuple(parts)


def part_in(cells, kind, word):
    """The part of a statement that a word tells, None if it has not the form."""
    if kind == "sum":
        return sum_in(cells, word)
    if kind == "measure":
        return word if word in MEASURES else None
    return number_of(word)


def comparison_in(cells, words):
    """The test that words tell, None if they have not the form."""
    if len(words) != 3 or words[1] not in SIGNS:
        return None
    one = sum_in(cells, words[0])
    other = sum_in(cells, words[2])
    if one is None or other is None:
        return None
    return (COMPARISONS[SIGNS.index(words[1])], one, other)


def sum_in(cells, word):
    """The sum that a row of terms tells, None if it has not the form."""
    signed = word if word.startswith("+") or word.startswith("-") else "+" + word
    found = [0] * (cells + 1)
    for term in signed.replace("+", " +").replace("-", " -").split(" ")[1:]:
        told = term_in(cells, term[1:])
        if told is None:
            return None
        place, number = told
        found[place] += -number if term.startswith("-") else number
    return tuple(found)


def term_in(cells, term):
    """The pair of the place in a sum and the number that a term without its sign adds there, None if it is none."""
    if "c" not in term:
        number = number_of(term)
        return None if number is None else (cells, number)
    figures, _, name = term.partition("c")
    cell = number_of(name)
    number = 1 if figures == "" else number_of(figures)
    if number is None or cell is None or cell >= cells:
        return None
    return (cell, number)
