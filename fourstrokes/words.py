"""Numbers and lines as they stand in texts."""

from fourstrokes.errors import BadText

FIGURES = "0123456789"
MOST_FIGURES = 9

# Python itself refuses to write very long numbers; so they are written so many figures at a time.
PIECE = 60
BEYOND_PIECE = 10 ** 60


def numeral(number):
    """The figures of an integer, with its sign if it is below 0."""
    if number < 0:
        return "-" + numeral_from_0(-number)
    return numeral_from_0(number)


def numeral_from_0(number):
    """The figures of a number."""
    pieces = []
    while number >= BEYOND_PIECE:
        number, piece = divmod(number, BEYOND_PIECE)
        pieces.append(str(piece).zfill(PIECE))
    return str(number) + "".join(pieces[::-1])


def number_of(word):
    """The number that a word tells, None if it tells none."""
    if not 1 <= len(word) <= MOST_FIGURES or not all([sign in FIGURES for sign in word]):
        return None
    if word.startswith("0") and len(word) > 1:
        return None
    return int(word)


def integer_of(word):
    """The integer that a word tells, None if it tells none."""
    if not word.startswith("-"):
        return number_of(word)
    number = number_of(word[1:])
    if number is None or number == 0:
        return None
    return -number


def integers_of(words):
    """The tuple of the integers that some words tell, None if one of them tells none."""
    found = tuple([integer_of(word) for word in words])
    return None if None in found else found


def line_of(words):
    """The line of these words, closed."""
    return " ".join(words) + "\n"


def lines_of(text):
    """The list of the lines of a text, the last one being what stands behind the last line feed."""
    if not isinstance(text, str):
        raise BadText(0)
    return text.split("\n")
