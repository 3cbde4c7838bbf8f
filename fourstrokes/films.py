"""Films: pictures led through one behind the other, and what is seen at a time of a script."""

from fourstrokes.boards import shortest
from fourstrokes.boxes import is_picture
from fourstrokes.errors import NoFilm, NoTime
from fourstrokes.kinds import is_fraction
from fourstrokes.scripts import pictures
from fourstrokes.strokes import places_at

MOST_PICTURES = 30


def film_script(boxes, film):
    """The scripts that lead from each picture of a film to the next one, one behind the other."""
    check_film(boxes, film)
    return tuple([stroke for one, other in zip(film, film[1:]) for stroke in shortest(boxes, one, other)])


def shown(boxes, picture, script, time):
    """A pair of fractions for each box: where it is at a time of the script, each stroke taking 1."""
    ahead = pictures(boxes, picture, script)
    if not is_time(len(script), time):
        raise NoTime()
    top, bottom = time
    number = top // bottom
    if number == len(script):
        return tuple([((x, 1), (y, 1)) for x, y in ahead[-1]])
    return places_at(boxes, ahead[number], script[number], (top - number * bottom, bottom))


def check_film(boxes, thing):
    """Raises NoFilm for what is no tuple of some pictures of these boxes, few enough."""
    if not isinstance(thing, tuple) or not 1 <= len(thing) <= MOST_PICTURES:
        raise NoFilm(-1)
    for index, item in enumerate(thing):
        if not is_picture(boxes, item):
            raise NoFilm(index)


def is_time(most, thing):
    """Whether a thing is a fraction from 0 to most."""
    return is_fraction(thing) and 0 <= thing[0] <= most * thing[1]
