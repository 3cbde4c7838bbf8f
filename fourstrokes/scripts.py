"""Scripts: strokes done one behind the other."""

from fourstrokes.boxes import check_picture
from fourstrokes.errors import NoScript, NotFree
from fourstrokes.strokes import behind, hit_of, is_stroke
from fourstrokes.ways import axis_of, edges

MOST_STROKES = 200


def led(boxes, picture, script):
    """The picture behind a script."""
    return checked_walk(boxes, picture, script)[-1]


def is_script(boxes, picture, thing):
    """Whether a thing is a script all of whose strokes are free."""
    check_picture(boxes, picture)
    return is_strokes(boxes, thing) and len(walk(boxes, picture, thing)) > len(thing)


def pictures(boxes, picture, script):
    """The list of the pictures ahead of, between and behind the strokes of a script."""
    return checked_walk(boxes, picture, script)


def taken_back(boxes, picture, script):
    """The script that leads back."""
    ahead = checked_walk(boxes, picture, script)
    strokes = [(way, edges(places, axis_of(way))) for (way, _), places in zip(script, ahead)]
    return tuple(strokes[::-1])


def joined(boxes, picture, script):
    """The script of the same end without strokes that change nothing and without neighbours of one way."""
    checked_walk(boxes, picture, script)
    strokes = []
    ahead = [picture]
    for stroke in script:
        if strokes and strokes[-1][0] == stroke[0]:
            strokes.pop()
            ahead.pop()
        places = behind(ahead[-1], stroke)
        if places != ahead[-1]:
            strokes.append(stroke)
            ahead.append(places)
    return tuple(strokes)


def is_strokes(boxes, thing):
    """Whether a thing is a script, its strokes free or not."""
    if not isinstance(thing, tuple) or len(thing) > MOST_STROKES:
        return False
    return all([is_stroke(boxes, item) for item in thing])


def walk(boxes, picture, script):
    """The pictures along a script, up to its first stroke that is not free: one more than strokes if all are."""
    found = [picture]
    for stroke in script:
        if hit_of(boxes, found[-1], stroke) is not None:
            return found
        found.append(behind(found[-1], stroke))
    return found


def checked_walk(boxes, picture, script):
    """The pictures along a script all of whose strokes are free, or the error that it is none."""
    check_picture(boxes, picture)
    if not is_strokes(boxes, script):
        raise NoScript()
    found = walk(boxes, picture, script)
    if len(found) <= len(script):
        raise NotFree(len(found) - 1)
    return found
