"""What the document says of columns, lists and passes, written once more in the plainest way, for the tests."""

from itertools import combinations, permutations, product

import oracles

BROADEST = 10 ** 6


def right_width(sizes, thing):
    return oracles.integer(thing) and thing <= BROADEST and all(width <= thing for width, _ in sizes)


def within(sizes, width, places):
    return all(0 <= x <= x + size[0] <= width for (x, _), size in zip(places, sizes))


def broad(sizes, width):
    return [pair for pair in combinations(range(len(sizes)), 2) if sum(sizes[box][0] for box in pair) > width]


def barring(sizes, width, one, other):
    """The least broad pair of which one box is above in the one picture, below in the other one."""
    over, under = oracles.above(sizes, one), oracles.above(sizes, other)
    for near, far in broad(sizes, width):
        if (near, far) in over and (far, near) in under or (far, near) in over and (near, far) in under:
            return (near, far)
    return None


def right_column_script(sizes, width, one, other, script):
    """Whether a script of free strokes leads there, all its pictures within."""
    if not oracles.right_script(sizes, one, script):
        return False
    trail = oracles.trail(one, script)
    return trail[-1] == other and all(within(sizes, width, places) for places in trail)


# Lists


def right_list(many, thing):
    return type(thing) is tuple and all(oracles.integer(item) for item in thing) and sorted(thing) == list(range(many))


def right_order(thing):
    return type(thing) is tuple and 1 <= len(thing) <= 40 and right_list(len(thing), thing)


def ahead(order, one, other):
    return order.index(one) < order.index(other)


def turned(one, other):
    return [pair for pair in combinations(range(len(one)), 2) if ahead(one, *pair) != ahead(other, *pair)]


def right_lot(many, thing):
    """Whether a thing is an ascending tuple of numbers below many."""
    if type(thing) is not tuple or not all(oracles.integer(item) and 0 <= item < many for item in thing):
        return False
    return thing == tuple(sorted(set(thing)))


def right_turned_lot(one, other, thing):
    if not right_lot(len(one), thing):
        return False
    return all(ahead(one, *pair) != ahead(other, *pair) for pair in combinations(thing, 2))


def turned_lots(one, other):
    """All turned lots of few things."""
    lots = [lot for size in range(len(one) + 1) for lot in combinations(range(len(one)), size)]
    return [lot for lot in lots if right_turned_lot(one, other, lot)]


def breadth(widths, one, other):
    """The greatest width in all of a turned lot: of each the last thing of the one list is the first of the other."""
    greatest = {}
    for thing in one:
        beyond = [greatest[each] for each in greatest if ahead(other, thing, each)]
        greatest[thing] = widths[thing] + max(beyond, default=0)
    return max(greatest.values())


def listed(sizes, order):
    """The picture of a list."""
    return tuple((0, sum(sizes[each][1] for each in order[:order.index(box)])) for box in range(len(sizes)))


def right_stand(sizes, width, one, other, thing):
    if not oracles.integers(thing, len(sizes)):
        return False
    places = tuple((edge, 0) for edge in thing)
    if not within(sizes, width, places):
        return False
    return not any(oracles.in_column(sizes, places, *pair) for pair in turned(one, other))


def stands(sizes, width, one, other):
    """All stands of few boxes."""
    every = product(*[range(width - size[0] + 1) for size in sizes])
    return [edges for edges in every if right_stand(sizes, width, one, other, edges)]


def strokes_by(sizes, edges, other):
    """The level, the upright, the level stroke of a pass by a stand."""
    goal = listed(sizes, other)
    return (("level", edges), ("upright", tuple(y for _, y in goal)), ("level", tuple(x for x, _ in goal)))


# Passes


def lists_in_pass(widths, width, order):
    """The lists that a list becomes in a pass."""
    return [other for other in permutations(range(len(order))) if breadth(widths, order, other) <= width]


def fewest_passes(widths, width, one, other):
    reached = [{one}]
    while other not in reached[-1]:
        following = {after for order in reached[-1] for after in lists_in_pass(widths, width, order)}
        if following == reached[-1]:
            return None
        reached.append(following)
    return len(reached) - 1


def longest_turned(one, other):
    """How many things the greatest turned lot has, by heaps in the way of patience."""
    heaps = []
    for thing in one:
        place = -other.index(thing)
        for number, top in enumerate(heaps):
            if top >= place:
                heaps[number] = place
                break
        else:
            heaps.append(place)
    return len(heaps)


def right_passing(lanes, thing):
    if type(thing) is not tuple or not thing or not right_order(thing[0]):
        return False
    if not all(right_list(len(thing[0]), item) for item in thing):
        return False
    return all(longest_turned(one, other) <= lanes for one, other in zip(thing, thing[1:]))


def least_power(lanes, many):
    """The least k for which lanes ** k is at least many."""
    return next(k for k in range(40) if lanes ** k >= many)


# Samples


class ListSamples(oracles.Samples):
    """Lists, and pictures within columns, that look as if drawn at random, always the same ones."""

    def order(self, many):
        return tuple(self.source.sample(range(many), many))

    def near_order(self, order, swaps):
        """A list made of another one by some exchanges of neighbours."""
        found = list(order)
        for _ in range(swaps if len(order) > 1 else 0):
            place = self.number(0, len(order) - 2)
            found[place], found[place + 1] = found[place + 1], found[place]
        return tuple(found)

    def column_picture(self, sizes, width, reach=6):
        """A picture within a column; up and down the reach grows until the boxes find room."""
        found = []
        for size in sizes:
            while True:
                place = (self.number(0, width - size[0]), self.number(-reach, reach))
                if oracles.overlaps(sizes[:len(found)] + (size,), tuple(found) + (place,)) == []:
                    found.append(place)
                    break
                reach += self.number(0, 1)
        return tuple(found)

    def column_neighbour(self, sizes, width, picture, strokes):
        """A picture to which some free strokes lead within the column."""
        for _ in range(strokes):
            for _ in range(50):
                stroke = self.stroke(picture, 4)
                if oracles.free_by_fact(sizes, picture, stroke):
                    if within(sizes, width, oracles.moved(picture, stroke)):
                        picture = oracles.moved(picture, stroke)
                        break
        return picture
