"""Texts read once more, by patterns, and texts that are spoiled."""

import re

from oracles import integer

NUMBER = r"(?:0|[1-9][0-9]{0,8})"
INTEGER = rf"(?:0|-?[1-9][0-9]{{0,8}})"
SIGNS = "ABCDEFGHIJKLMNOPQRSTUVWXYZabcdefghijklmn"


def split(text):
    """The lines of a text, and what stands behind the last line feed."""
    *lines, rest = text.split("\n")
    return lines, rest


def bad_line(text, pattern):
    """The number of the first line of a text that has not the form, None if all have it."""
    lines, rest = split(text)
    for number, line in enumerate(lines, start=1):
        if not re.fullmatch(pattern, line):
            return number
    return len(lines) + 1 if rest else None


def bad_picture_line(text):
    return bad_line(text, rf"box(?: {INTEGER}){{4}}")


def bad_script_line(text):
    return bad_line(text, rf"(?:level|upright)(?: {INTEGER})+")


# Scenes


def sum_pattern(cells):
    term = rf"(?:{NUMBER}|{NUMBER}?c[0-{cells - 1}])"
    return rf"[+-]?{term}(?:[+-]{term})*"


def sum_worth(cells, word):
    """The tuple that a row of terms tells."""
    found = [0] * (cells + 1)
    for sign, figures, cell in re.findall(r"([+-]?)([0-9]*)(c[0-9]+)?", word):
        if figures or cell:
            place = int(cell[1:]) if cell else cells
            found[place] += int(sign + (figures or "1"))
    return tuple(found)


class Wrong(Exception):
    """The line with this number is wrong."""


class SceneText:
    """A text of a scene, read by patterns, each statement by a call of its own."""

    def __init__(self, text):
        lines, rest = split(text)
        self.lines = lines
        self.last = len(lines) + 1
        self.rest = rest
        self.at = 0

    def read(self):
        """The cells and the routines; Wrong is raised for a line that can't stand there."""
        match = re.fullmatch("cells ([1-5])", self.next() or "")
        self.need(match)
        self.cells = int(match[1])
        routines = []
        while self.next() is not None:
            self.need(self.lines[self.at - 1] == "routine")
            routines.append(self.body(("routine", None)))
        if self.rest:
            raise Wrong(self.last)
        return self.cells, tuple(routines)

    def next(self):
        """The next line, None at the end; at is the number of what was read last."""
        self.at += 1
        return self.lines[self.at - 1] if self.at < self.last else None

    def need(self, held):
        if not held:
            raise Wrong(self.at)

    def body(self, ends):
        """A body up to a line that ends it; routine, and what stands behind the text, is left to be read again."""
        found = []
        while True:
            line = self.next()
            if line in ends:
                self.at -= line in ("routine", None)
                return tuple(found)
            self.need(line is not None)
            found.append(self.statement(line))

    def statement(self, line):
        told = sum_pattern(self.cells)
        if match := re.fullmatch(rf"set ({NUMBER}) ({told})", line):
            return ("set", int(match[1]), sum_worth(self.cells, match[2]))
        if match := re.fullmatch(rf"put ({told}) ({told}) ({told})", line):
            return ("put", *[sum_worth(self.cells, word) for word in match.groups()])
        if match := re.fullmatch(rf"ask ({NUMBER}) (width|height|left|top) ({told})", line):
            return ("ask", int(match[1]), match[2], sum_worth(self.cells, match[3]))
        if match := re.fullmatch(rf"call ({NUMBER})", line):
            return ("call", int(match[1]))
        match = re.fullmatch(rf"(if|while) ({told}) ([<=]) ({told})", line)
        self.need(match)
        word = "less" if match[3] == "<" else "same"
        test = (word, sum_worth(self.cells, match[2]), sum_worth(self.cells, match[4]))
        if match[1] == "while":
            return ("while", test, self.body(("end",)))
        return ("if", test, self.body(("else",)), self.body(("end",)))


def read_scene(text):
    """("scene", cells, routines) or ("line", number)."""
    reader = SceneText(text)
    try:
        return ("scene", *reader.read())
    except Wrong as wrong:
        return ("line", *wrong.args)


def sum_text(told):
    """The word of a sum."""
    word = ""
    for cell, multiple in enumerate(told[:-1]):
        if multiple:
            word += f"{multiple:+}c{cell}".replace("+1c", "+c").replace("-1c", "-c")
    if told[-1] or not word:
        word += f"{told[-1]:+}"
    return word[1:] if word[0] == "+" else word


def scene_text(cells, routines):
    lines = [f"cells {cells}"]

    def test_text(test):
        return sum_text(test[1]) + {"less": " < ", "same": " = "}[test[0]] + sum_text(test[2])

    def tell(body):
        for word, *rest in body:
            if word == "call":
                lines.append(f"call {rest[0]}")
            elif word == "set":
                lines.append(f"set {rest[0]} {sum_text(rest[1])}")
            elif word == "put":
                lines.append(" ".join(["put"] + [sum_text(told) for told in rest]))
            elif word == "ask":
                lines.append(f"ask {rest[0]} {rest[1]} {sum_text(rest[2])}")
            else:
                lines.append(f"{word} {test_text(rest[0])}")
                tell(rest[1])
                if word == "if":
                    lines.append("else")
                    tell(rest[2])
                lines.append("end")
    for routine in routines:
        lines.append("routine")
        tell(routine)
    return "".join(line + "\n" for line in lines)


# Drawings


def drawn(sizes, places):
    """The drawing of a picture, sign by sign."""
    left, top = min(x for x, _ in places), min(y for _, y in places)
    right = max(x + width for (x, _), (width, _) in zip(places, sizes))
    bottom = max(y + height for (_, y), (_, height) in zip(places, sizes))

    def sign(x, y):
        for box, ((begin, over), (width, height)) in enumerate(zip(places, sizes)):
            if begin <= x < begin + width and over <= y < over + height:
                return SIGNS[box]
        return " "
    return "".join(
        "".join(sign(x, y) for x in range(left, right)).rstrip() + "\n" for y in range(top, bottom))


def read_drawn(text):
    """The sizes and the places of which a text is drawn, None if there are none."""
    if not re.fullmatch(r"(?:[A-Za-n ]*\n)+", text) or re.search(r" \n", text):
        return None
    spots = {}
    for y, row in enumerate(text.split("\n")):
        for x, sign in enumerate(row):
            spots.setdefault(sign, []).append((x, y))
    spots.pop(" ", None)
    if not spots or "".join(sorted(spots)) != SIGNS[:len(spots)]:
        return None
    sizes, places = [], []
    for sign in sorted(spots):
        columns, rows = [x for x, _ in spots[sign]], [y for _, y in spots[sign]]
        width, height = max(columns) - min(columns) + 1, max(rows) - min(rows) + 1
        if len(spots[sign]) != width * height:
            return None
        sizes.append((width, height))
        places.append((min(columns), min(rows)))
    least = (min(x for x, _ in places), min(y for _, y in places))
    most = max(x + width for (x, _), (width, _) in zip(places, sizes)), text.count("\n")
    if least != (0, 0) or max(most) > 200 or most[1] != max(y + size[1] for (_, y), size in zip(places, sizes)):
        return None
    return tuple(sizes), tuple(places)


# Spoiled texts


def spoiled_texts(text, signs):
    """Texts like this one with a sign left out, doubled, exchanged, put in, or moved, or a line left out or doubled."""
    found = [text, text[:-1], text + "\n", text + " ", "\n" + text, " " + text, text + text, text[::-1], text.upper(), ""]
    for at in range(len(text)):
        found.append(text[:at] + text[at + 1:])
        found.append(text[:at])
        found.append(text[at:])
        found.append(text[:at] + text[at:at + 2][::-1] + text[at + 2:])
        for sign in signs:
            found.append(text[:at] + sign + text[at:])
            found.append(text[:at] + sign + text[at + 1:])
    lines = text.split("\n")
    for at in range(len(lines)):
        found.append("\n".join(lines[:at] + lines[at + 1:]))
        found.append("\n".join(lines[:at] + lines[at:at + 1] + lines[at:]))
        found.append("\n".join(lines[:at] + lines[at:at + 2][::-1] + lines[at + 2:]))
    return found


def right_size(thing):
    return type(thing) is tuple and len(thing) == 2 and all(integer(part) and 1 <= part <= 1000 for part in thing)
