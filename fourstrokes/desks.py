"""A desk that keeps pages and scenes under names and works by lines."""

from fourstrokes.boards import fewest
from fourstrokes.drawings import drawn
from fourstrokes.errors import NoLine, NoName
from fourstrokes.pages import Page
from fourstrokes.running import picture_of
from fourstrokes.sources import read_scene, scene_text
from fourstrokes.texts import picture_text, read_picture
from fourstrokes.words import integer_of, integers_of, number_of

LETTERS = "abcdefghijklmnopqrstuvwxyz"
LONGEST_NAME = 8
DONE = "ok"

# For the first word of each line what stands behind it; the last is all that is left of the line. A page and a scene
# are told by their names, under which they are kept; under a name alone something is going to be kept.
FORMS = {
    "page": ("name", "width", "text"),
    "scene": ("name", "text"),
    "level": ("page", "integers"),
    "upright": ("page", "integers"),
    "nudge": ("page", "number", "integer", "integer"),
    "grow": ("page", "number", "number", "number"),
    "add": ("page", "number", "number", "integer", "integer"),
    "drop": ("page", "number"),
    "lead": ("page", "scene", "integers"),
    "undo": ("page",),
    "redo": ("page",),
    "show": ("page",),
    "text": ("page",),
    "source": ("scene",),
    "strokes": ("page",),
    "deeds": ("page",),
    "far": ("page", "page"),
}


def do_level(page, goals):
    """Does a level stroke."""
    page.stroke(("level", goals))
    return DONE


def do_upright(page, goals):
    """Does an upright stroke."""
    page.stroke(("upright", goals))
    return DONE


def do_nudge(page, box, x, y):
    """Leads one box alone."""
    page.nudge(box, x, y)
    return DONE


def do_grow(page, box, width, height):
    """Gives a box another size."""
    page.grow(box, width, height)
    return DONE


def do_add(page, width, height, x, y):
    """Adds a box."""
    page.add(width, height, x, y)
    return DONE


def do_drop(page, box):
    """Takes a box away."""
    page.drop(box)
    return DONE


def do_lead(page, scene, begins):
    """Leads a page to what a scene works out, and tells by how many strokes."""
    ahead = page.strokes()
    page.lead(picture_of(scene, page.boxes(), begins))
    return str(page.strokes() - ahead)


def do_undo(page):
    """Takes the last change back."""
    page.undo()
    return DONE


def do_redo(page):
    """Does the change again that was taken back last."""
    page.redo()
    return DONE


def tell_drawn(page):
    """Tells a page as it is drawn."""
    return in_a_line(drawn(page.boxes(), page.picture()))


def tell_picture(page):
    """Tells the text of a page's picture."""
    return in_a_line(picture_text(page.boxes(), page.picture()))


def tell_scene(scene):
    """Tells the text of a scene."""
    return in_a_line(scene_text(scene))


def tell_strokes(page):
    """Tells how many strokes were done."""
    return str(page.strokes())


def tell_deeds(page):
    """Tells how many changes can be taken back."""
    return str(page.deeds())


def tell_far(page, other):
    """Tells how few strokes lead from a page's picture to that of another one with equal boxes."""
    if page.boxes() != other.boxes():
        return "unlike"
    return str(fewest(page.boxes(), page.picture(), other.picture()))


# For the first word of each line, but those that keep something, what is done.
ACTIONS = {
    "level": do_level,
    "upright": do_upright,
    "nudge": do_nudge,
    "grow": do_grow,
    "add": do_add,
    "drop": do_drop,
    "lead": do_lead,
    "undo": do_undo,
    "redo": do_redo,
    "show": tell_drawn,
    "text": tell_picture,
    "source": tell_scene,
    "strokes": tell_strokes,
    "deeds": tell_deeds,
    "far": tell_far,
}


class Desk:
    """Pages and scenes, each kept under a name."""

    def __init__(self):
        self._pages = {}
        self._scenes = {}

    def tell(self, line):
        """Does what a line tells, and tells what came of it."""
        word, values = line_parts(line)
        if word == "page":
            name, width, text = values
            self._pages[name] = page_of(width, text)
            return DONE
        if word == "scene":
            name, text = values
            self._scenes[name] = read_scene(text)
            return DONE
        things = [self._meant(kind, value) for kind, value in zip(FORMS[word], values)]
        action = ACTIONS[word]
        return action(*things)

    def _meant(self, kind, value):
        """What is kept under a name of this kind; of another kind the value itself."""
        if kind not in ("page", "scene"):
            return value
        kept = self._pages if kind == "page" else self._scenes
        if value not in kept:
            raise NoName(value)
        return kept[value]


def line_parts(line):
    """The first word of a line, and the list of the values of what stands behind it."""
    if not isinstance(line, str) or "\n" in line:
        raise NoLine()
    word = line.split(" ")[0]
    if word not in FORMS:
        raise NoLine()
    pieces = line.split(" ", len(FORMS[word]))[1:]
    values = [value_of(kind, piece) for kind, piece in zip(FORMS[word], pieces)]
    if len(values) != len(FORMS[word]) or None in values:
        raise NoLine()
    return (word, values)


def value_of(kind, piece):
    """The value of a piece of a line, None if it has not the form."""
    if kind == "number":
        return number_of(piece)
    if kind == "integer":
        return integer_of(piece)
    if kind == "integers":
        return integers_of(piece.split(" "))
    if kind == "width":
        return piece if piece == "board" else number_of(piece)
    if kind == "text":
        return piece.replace(";", "\n") if piece else None
    return piece if is_name(piece) else None


def is_name(word):
    """Whether a word can be a name."""
    return 1 <= len(word) <= LONGEST_NAME and all([letter in LETTERS for letter in word])


def page_of(width, text):
    """The page of a picture's text, in a column of this width or on a board."""
    boxes, picture = read_picture(text)
    return Page(boxes, picture, None if width == "board" else width)


def in_a_line(text):
    """A text without line feeds."""
    return text.replace("\n", ";")
