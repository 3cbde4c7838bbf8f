"""What the document says, written once more in the plainest way, for the tests to compare with.

Boxes are told by their sizes here; a hit, a fraction of the oracles is a fractions.Fraction.
"""

import random
from fractions import Fraction
from itertools import combinations, permutations


def integer(thing):
    return type(thing) is int


def integers(thing, many):
    return type(thing) is tuple and len(thing) == many and all(integer(item) for item in thing)


def right_places(sizes, thing):
    return type(thing) is tuple and len(thing) == len(sizes) and all(integers(place, 2) for place in thing)


def in_common(begin, length, other_begin, other_length):
    """Whether two stretches have more than an edge in common."""
    return max(begin, other_begin) < min(begin + length, other_begin + other_length)


def in_row(sizes, places, one, other):
    return in_common(places[one][1], sizes[one][1], places[other][1], sizes[other][1])


def in_column(sizes, places, one, other):
    return in_common(places[one][0], sizes[one][0], places[other][0], sizes[other][0])


def overlaps(sizes, places):
    return [
        (one, other) for one, other in combinations(range(len(sizes)), 2)
        if in_row(sizes, places, one, other) and in_column(sizes, places, one, other)
    ]


def right_picture(sizes, thing):
    return right_places(sizes, thing) and overlaps(sizes, thing) == []


def left_of(sizes, picture):
    return tuple(sorted(
        (one, other) for one, other in permutations(range(len(sizes)), 2)
        if in_row(sizes, picture, one, other) and picture[one][0] < picture[other][0]
    ))


def above(sizes, picture):
    return tuple(sorted(
        (one, other) for one, other in permutations(range(len(sizes)), 2)
        if in_column(sizes, picture, one, other) and picture[one][1] < picture[other][1]
    ))


# Books


def book_fault(many, thing):
    if type(thing) is not tuple:
        return -1
    for index, item in enumerate(thing):
        if not integers(item, 2) or not all(0 <= number < many for number in item) or item[0] == item[1]:
            return index
        if index > 0 and not thing[index - 1] < item:
            return index
    return None


def leads(book, one):
    """All things to which some way of one pair or more leads from one."""
    reached = set()
    coming = [one]
    while coming:
        thing = coming.pop()
        for begin, end in book:
            if begin == thing and end not in reached:
                reached.add(end)
                coming.append(end)
    return reached


def has_ring(many, book):
    return any(thing in leads(book, thing) for thing in range(many))


def right_ring(many, book, thing):
    if type(thing) is not tuple or len(thing) < 2:
        return False
    if not all(integer(item) and 0 <= item < many for item in thing):
        return False
    if len(set(thing)) != len(thing) or thing[0] != min(thing):
        return False
    return all((thing[index - 1], thing[index]) in book for index in range(len(thing)))


def keeping_orders(many, book):
    """The ascending list of the orders that keep a book."""
    return [
        order for order in permutations(range(many))
        if all(order.index(one) < order.index(other) for one, other in book)
    ]


# Strokes


def right_stroke(sizes, thing):
    if type(thing) is not tuple or len(thing) != 2 or type(thing[0]) is not str:
        return False
    return thing[0] in ("level", "upright") and integers(thing[1], len(sizes))


def moved(places, stroke):
    way, goals = stroke
    if way == "level":
        return tuple((goal, y) for goal, (_, y) in zip(goals, places))
    return tuple((x, goal) for goal, (x, _) in zip(goals, places))


def at(places, stroke, time):
    """The places, in Fractions, at a time of a stroke."""
    end = moved(places, stroke)
    return [
        (x + (goal_x - x) * time, y + (goal_y - y) * time)
        for (x, y), (goal_x, goal_y) in zip(places, end)
    ]


def right_moment(thing):
    if not integers(thing, 2) or thing[1] < 1 or not 0 <= thing[0] <= thing[1]:
        return False
    fraction = Fraction(thing[0], thing[1])
    return (fraction.numerator, fraction.denominator) == thing


def touchings(sizes, places, stroke):
    """The times, 0 and 1 among them, at which edges of two boxes may lie on one another."""
    axis = 0 if stroke[0] == "level" else 1
    end = moved(places, stroke)
    times = {Fraction(0), Fraction(1)}
    for one, other in permutations(range(len(sizes)), 2):
        gap = places[other][axis] - places[one][axis] - sizes[one][axis]
        gap_at_end = end[other][axis] - end[one][axis] - sizes[one][axis]
        if gap != gap_at_end and 0 < Fraction(gap, gap - gap_at_end) < 1:
            times.add(Fraction(gap, gap - gap_at_end))
    return sorted(times)


def first_hit(sizes, places, stroke):
    """None, or (moment, one, other): between two touchings it is one thing all the time which boxes overlap."""
    times = touchings(sizes, places, stroke)
    for begin, end in zip(times, times[1:]):
        found = overlaps(sizes, at(places, stroke, (begin + end) / 2))
        if found:
            return ((begin.numerator, begin.denominator),) + found[0]
    return None


def free_by_fact(sizes, places, stroke):
    """Whether a stroke is free by THE FACT OF STROKES."""
    end = moved(places, stroke)
    book = left_of if stroke[0] == "level" else above
    return overlaps(sizes, end) == [] and book(sizes, places) == book(sizes, end)


def right_script(sizes, places, thing):
    """Whether a thing is a script all of whose strokes are free."""
    return first_wrong(sizes, places, thing) is None


def first_wrong(sizes, places, thing):
    """None for a script of free strokes, "script" for what is none, else the number of its first stroke not free."""
    if type(thing) is not tuple or len(thing) > 200 or not all(right_stroke(sizes, item) for item in thing):
        return "script"
    for number, stroke in enumerate(thing):
        if not free_by_fact(sizes, places, stroke):
            return number
        places = moved(places, stroke)
    return None


def trail(places, script):
    found = [places]
    for stroke in script:
        found.append(moved(found[-1], stroke))
    return found


# How few strokes


def straight(places, other, ways):
    return tuple((way, tuple(place[0 if way == "level" else 1] for place in other)) for way in ways)


def by_turns(way, many):
    words = ("level", "upright") if way == "level" else ("upright", "level")
    return tuple(words[number % 2] for number in range(many))


def can_by(sizes, one, other, ways, rules=((), ())):
    """Whether some script of strokes of these ways leads there and keeps the rules, both of which pictures do."""
    if len(ways) > 3:
        return True
    if len(ways) == 3:
        axis = 0 if ways[0] == "level" else 1
        book = (left_of, above)[axis]
        return not has_ring(len(sizes), book(sizes, one) + book(sizes, other) + rules[axis])
    script = straight(one, other, ways)
    return right_script(sizes, one, script) and trail(one, script)[-1] == other


def fewest(sizes, one, other, rules=((), ())):
    for many in range(4):
        if any(can_by(sizes, one, other, by_turns(way, many), rules) for way in ("level", "upright")):
            return many
    return 4


def keeps(sizes, rules, places):
    lefts, aboves = rules
    return all(places[one][0] + sizes[one][0] <= places[other][0] for one, other in lefts) and all(
        places[one][1] + sizes[one][1] <= places[other][1] for one, other in aboves)


# Samples, the same in every run


class Samples:
    """Pictures and strokes that look as if drawn at random, always the same ones."""

    def __init__(self, seed):
        self.source = random.Random(seed)

    def number(self, low, high):
        return self.source.randint(low, high)

    def sizes(self, many, longest=3):
        return tuple((self.number(1, longest), self.number(1, longest)) for _ in range(many))

    def places(self, sizes, reach):
        return tuple((self.number(-reach, reach), self.number(-reach, reach)) for _ in sizes)

    def picture(self, sizes, reach=5):
        """A picture; the reach grows until the boxes find room."""
        found = []
        for size in sizes:
            while True:
                place = (self.number(-reach, reach), self.number(-reach, reach))
                if overlaps(sizes[:len(found)] + (size,), tuple(found) + (place,)) == []:
                    found.append(place)
                    break
                reach += self.number(0, 1)
        return tuple(found)

    def shuffled(self):
        """Sizes, and two pictures in which the boxes stand in one grid, in each as it comes."""
        rows = self.number(1, 3)
        columns = self.number(2, 3) if rows > 1 else self.number(2, 5)
        cells = [(3 * column, 2 * row) for row in range(rows) for column in range(columns)]
        sizes = tuple((self.number(1, 3), self.number(1, 2)) for _ in cells)
        return sizes, tuple(self.source.sample(cells, len(cells))), tuple(self.source.sample(cells, len(cells)))

    def stroke(self, picture, reach=2):
        """A stroke in which no box goes far."""
        way = ("level", "upright")[self.number(0, 1)]
        axis = 0 if way == "level" else 1
        return (way, tuple(place[axis] + self.number(-reach, reach) for place in picture))

    def free_stroke(self, sizes, picture, reach=2):
        while True:
            stroke = self.stroke(picture, reach)
            if free_by_fact(sizes, picture, stroke):
                return stroke

    def script(self, sizes, picture, many):
        """A script of free strokes, some changing nothing, some neighbours of one way."""
        script = ()
        for _ in range(many):
            script += (self.free_stroke(sizes, trail(picture, script)[-1]),)
        return script

    def book(self, many, pairs):
        """A book of some pairs, perhaps with rings."""
        every = list(permutations(range(many), 2))
        return tuple(sorted(self.source.sample(every, min(pairs, len(every)))))
