"""A desk that knows its lines by patterns, and does them by the functions and pages that other tests judge."""

import re

from fourstrokes.boards import fewest
from fourstrokes.drawings import drawn
from fourstrokes.errors import NoLine, NoName
from fourstrokes.pages import Page
from fourstrokes.running import picture_of
from fourstrokes.sources import read_scene, scene_text
from fourstrokes.texts import picture_text, read_picture
from text_oracles import INTEGER, NUMBER

NAME = "[a-z]{1,8}"
ROW = rf"{INTEGER}(?: {INTEGER})*"
PATTERNS = [
    rf"(page) ({NAME}) ({NUMBER}|board) ([^\n]+)",
    rf"(scene) ({NAME}) ([^\n]+)",
    rf"(level|upright) ({NAME}) ({ROW})",
    rf"(nudge) ({NAME}) ({NUMBER}) ({INTEGER}) ({INTEGER})",
    rf"(grow) ({NAME}) ({NUMBER}) ({NUMBER}) ({NUMBER})",
    rf"(add) ({NAME}) ({NUMBER}) ({NUMBER}) ({INTEGER}) ({INTEGER})",
    rf"(drop) ({NAME}) ({NUMBER})",
    rf"(lead) ({NAME}) ({NAME}) ({ROW})",
    rf"(undo|redo|show|text|source|strokes|deeds) ({NAME})",
    rf"(far) ({NAME}) ({NAME})",
]


def line_words(line):
    """The words of a line, None if it has none of the forms."""
    if type(line) is not str:
        return None
    for pattern in PATTERNS:
        if match := re.fullmatch(pattern, line):
            return match.groups()
    return None


class DeskModel:

    def __init__(self):
        self.pages = {}
        self.scenes = {}

    def tell(self, line):
        words = line_words(line)
        if words is None:
            raise NoLine()
        word, *rest = words
        if word == "page":
            boxes, picture = read_picture(rest[2].replace(";", "\n"))
            self.pages[rest[0]] = Page(boxes, picture, None if rest[1] == "board" else int(rest[1]))
            return "ok"
        if word == "scene":
            self.scenes[rest[0]] = read_scene(rest[1].replace(";", "\n"))
            return "ok"
        if word == "source":
            return scene_text(self.kept(self.scenes, rest[0])).replace("\n", ";")
        return self.tell_page(word, self.kept(self.pages, rest[0]), rest[1:])

    def kept(self, things, name):
        if name not in things:
            raise NoName(name)
        return things[name]

    def tell_page(self, word, page, rest):
        if word in ("strokes", "deeds"):
            return str(getattr(page, word)())
        if word == "show":
            return drawn(page.boxes(), page.picture()).replace("\n", ";")
        if word == "text":
            return picture_text(page.boxes(), page.picture()).replace("\n", ";")
        if word == "far":
            other = self.kept(self.pages, rest[0])
            if not page.boxes() == other.boxes():
                return "unlike"
            return str(fewest(page.boxes(), page.picture(), other.picture()))
        if word == "lead":
            scene = self.kept(self.scenes, rest[0])
            ahead = page.strokes()
            page.lead(picture_of(scene, page.boxes(), tuple(map(int, rest[1].split()))))
            return str(page.strokes() - ahead)
        if word in ("level", "upright"):
            page.stroke((word, tuple(map(int, rest[0].split()))))
        else:
            getattr(page, word)(*map(int, rest))
        return "ok"
