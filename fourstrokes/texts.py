"""Texts of pictures and of scripts, told and read."""

from fourstrokes.boxes import Boxes, check_picture
from fourstrokes.errors import BadText, NoScript
from fourstrokes.scripts import is_strokes
from fourstrokes.ways import is_way
from fourstrokes.words import integers_of, line_of, lines_of, numeral


def picture_text(boxes, picture):
    """The text of a picture: a line for each box, with its size and its place."""
    check_picture(boxes, picture)
    return "".join([numbers_line("box", size + place) for size, place in zip(boxes.sizes, picture)])


def script_text(boxes, script):
    """The text of a script: a line for each stroke, with its way and its goals."""
    check_strokes(boxes, script)
    return "".join([numbers_line(way, goals) for way, goals in script])


def read_picture(text):
    """The pair (Boxes, picture) that a text tells."""
    found = read_lines(text, box_in)
    boxes = Boxes(tuple([numbers[:2] for numbers in found]))
    picture = tuple([numbers[2:] for numbers in found])
    check_picture(boxes, picture)
    return (boxes, picture)


def read_script(boxes, text):
    """The script that a text tells, its strokes free or not."""
    script = tuple(read_lines(text, stroke_in))
    check_strokes(boxes, script)
    return script


def check_strokes(boxes, thing):
    """Raises NoScript for what is no script of these boxes."""
    if not is_strokes(boxes, thing):
        raise NoScript()


def numbers_line(word, numbers):
    """The line of a word and some integers."""
    return line_of([word] + [numeral(number) for number in numbers])


def read_lines(text, read):
    """The list of what is read from each line of a text; read gives None for a line without the form."""
    lines = lines_of(text)
    found = []
    for number, line in enumerate(lines[:-1], start=1):
        item = read(line)
        if item is None:
            raise BadText(number)
        found.append(item)
    if lines[-1] != "":
        raise BadText(len(lines))
    return found


def box_in(line):
    """The width, the height and the place that a line tells, None if it has not the form."""
    words = line.split(" ")
    numbers = integers_of(words[1:])
    if words[0] != "box" or numbers is None or len(numbers) != 4:
        return None
    return numbers


def stroke_in(line):
    """The stroke that a line tells, of however many boxes, None if it has not the form."""
    words = line.split(" ")
    goals = integers_of(words[1:])
    if not is_way(words[0]) or goals is None or not goals:
        return None
    return (words[0], goals)
