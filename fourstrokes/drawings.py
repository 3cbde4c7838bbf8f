"""Pictures drawn with signs, and read again."""

from fourstrokes.boxes import ACROSS, DOWN, Boxes, check_picture, is_picture
from fourstrokes.errors import NoDrawing, TooMany
from fourstrokes.ways import edges
from fourstrokes.words import lines_of

# One for each box; as many as boxes can be.
SIGNS = "ABCDEFGHIJKLMNOPQRSTUVWXYZabcdefghijklmn"
MOST_DRAWN = 200


def drawn(boxes, picture):
    """The text of rows of signs, each box filled with its own one."""
    check_picture(boxes, picture)
    left, columns = stretch(boxes, picture, ACROSS)
    top, rows = stretch(boxes, picture, DOWN)
    if columns > MOST_DRAWN or rows > MOST_DRAWN:
        raise TooMany(MOST_DRAWN)
    grid = [[" "] * columns for _ in range(rows)]
    for sign, (width, height), (x, y) in zip(SIGNS, boxes.sizes, picture):
        for row in range(y - top, y - top + height):
            grid[row][x - left:x - left + width] = [sign] * width
    return "".join(["".join(row).rstrip(" ") + "\n" for row in grid])


def read_drawn(text):
    """The pair (Boxes, picture) of which a text is drawn, the least edges being 0."""
    found = framed(lines_of(text))
    if found is None or not is_picture(found[0], found[1]) or drawn(found[0], found[1]) != text:
        raise NoDrawing()
    return found


def stretch(boxes, picture, axis):
    """The least edge along the axis, and how far it is from there to the last box's end."""
    begins = edges(picture, axis)
    ends = [begin + size[axis] for begin, size in zip(begins, boxes.sizes)]
    return (min(begins), max(ends) - min(begins))


def framed(rows):
    """The least boxes that hold all signs of each kind, and their places, None if no drawing has such signs."""
    if len(rows) > MOST_DRAWN + 1 or max([len(row) for row in rows]) > MOST_DRAWN:
        return None
    frames = frames_in(rows)
    signs = SIGNS[:len(frames)]
    if not frames or sorted(frames) != sorted(signs):
        return None
    found = [frames[sign] for sign in signs]
    sizes = [(right - left + 1, bottom - top + 1) for left, top, right, bottom in found]
    return (Boxes(tuple(sizes)), tuple([frame[:2] for frame in found]))


def frames_in(rows):
    """For each sign but the blank the first and the last column and row in which it stands."""
    frames = {}
    for y, row in enumerate(rows):
        for x, sign in enumerate(row):
            if sign != " ":
                left, top, right, _ = frames.get(sign, (x, y, x, y))
                frames[sign] = (min(left, x), top, max(right, x), y)
    return frames
