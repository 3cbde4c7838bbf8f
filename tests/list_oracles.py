"""What the document says of columns and of lists, written once more in the plainest way, for the tests."""

from itertools import combinations, permutations, product

import oracles

BROADEST = 10 ** 6


def right_width(sizes, thing):
    return oracles.integer(thing) and thing <= BROADEST and all(width <= thing for width, _ in sizes)


def within(sizes, width, places):
    return all(0 <= x <= x + size[0] <= width for (x, _), size in zip(places, sizes))


def broad(sizes, width):
    return [pair for pair in combinations(range(len(sizes)), 2) if sum(sizes[box][0] for box in pair) > width]


def barring(sizes, width, one, other):
    """The least broad pair of which one box is above in the one picture, below in the other one."""
    over, under = oracles.above(sizes, one), oracles.above(sizes, other)
    for near, far in broad(sizes, width):
        if (near, far) in over and (far, near) in under or (far, near) in over and (near, far) in under:
            return (near, far)
    return None


def right_column_script(sizes, width, one, other, script):
    """Whether a script of free strokes leads there, all its pictures within."""
    if not oracles.right_script(sizes, one, script):
        return False
    trail = oracles.trail(one, script)
    return trail[-1] == other and all(within(sizes, width, places) for places in trail)


# Lists


def right_list(many, thing):
    return type(thing) is tuple and all(oracles.integer(item) for item in thing) and sorted(thing) == list(range(many))


def right_order(thing):
    return type(thing) is tuple and 1 <= len(thing) <= 40 and right_list(len(thing), thing)


def ahead(order, one, other):
    return order.index(one) < order.index(other)


def turned(one, other):
    return [pair for pair in combinations(range(len(one)), 2) if ahead(one, *pair) != ahead(other, *pair)]


def right_lot(many, thing):
    """Whether a thing is an ascending tuple of numbers below many."""
    if type(thing) is not tuple or not all(oracles.integer(item) and 0 <= item < many for item in thing):
        return False
    return thing == tuple(sorted(set(thing)))


def right_turned_lot(one, other, thing):
    if not right_lot(len(one), thing):
        return False
    return all(ahead(one, *pair) != ahead(other, *pair) for pair in combinations(thing, 2))


def turned_lots(one, other):
    """All turned lots of few things."""
    lots = [lot for size in range(len(one) + 1) for lot in combinations(range(len(one)), size)]
    return [lot for lot in lots if right_turned_lot(one, other, lot)]


def breadth(widths, one, other):
    """The greatest width in all of a turned lot: of each the last thing of the one list is the first of the other."""
    greatest = {}
    for thing in one:
        beyond = [greatest[each] for each in greatest if ahead(other, thing, each)]
        greatest[thing] = widths[thing] + max(beyond, default=0)
    return max(greatest.values())


def listed(sizes, order):
    """The picture of a list."""
    return tuple((0, sum(sizes[each][1] for each in order[:order.index(box)])) for box in range(len(sizes)))


def right_stand(sizes, width, one, other, thing):
    if not oracles.integers(thing, len(sizes)):
        return False
    places = tuple((edge, 0) for edge in thing)
    if not within(sizes, width, places):
        return False
    return not any(oracles.in_column(sizes, places, *pair) for pair in turned(one, other))


def stands(sizes, width, one, other):
    """All stands of few boxes."""
    every = product(*[range(width - size[0] + 1) for size in sizes])
    return [edges for edges in every if right_stand(sizes, width, one, other, edges)]


def strokes_by(sizes, edges, other):
    """The level, the upright, the level stroke of a pass by a stand."""
    goal = listed(sizes, other)
    return (("level", edges), ("upright", tuple(y for _, y in goal)), ("level", tuple(x for x, _ in goal)))


# Passes


def lists_in_pass(widths, width, order):
    """The lists that a list becomes in a pass."""
    return [other for other in permutations(range(len(order))) if breadth(widths, order, other) <= width]


def fewest_passes(widths, width, one, other):
    reached = [{one}]
    while other not in reached[-1]:
        following = {after for order in reached[-1] for after in lists_in_pass(widths, width, order)}
        if following == reached[-1]:
            return None
        reached.append(following)
    return len(reached) - 1


def longest_turned(one, other):
    """How many things the greatest turned lot has, by heaps in the way of patience."""
    heaps = []
    for thing in one:
        place = -other.index(thing)
        for number, top in enumerate(heaps):
            if top >= place:
                heaps[number] = place
                break
        else:
            heaps.append(place)
    return len(heaps)


def right_passing(lanes, thing):
    if type(thing) is not tuple or not thing or not right_order(thing[0]):
        return False
    if not all(right_list(len(thing[0]), item) for item in thing):
        return False
    return all(longest_turned(one, other) <= lanes for one, other in zip(thing, thing[1:]))


def least_power(lanes, many):
    """The least k for which lanes ** k is at least many."""
    return next(k for k in range(40) if lanes ** k >= many)


# Fading


def rows(one, other):
    """How long the rows are into which the things of one list, told by their places in the other one, push each other.

    So many things as the first k rows have stand in k lists of things in one order (Greene).
    """
    found = []
    for thing in one:
        place = other.index(thing)
        for row in found:
            greater = [number for number, each in enumerate(row) if each > place]
            if not greater:
                row.append(place)
                break
            row[greater[0]], place = place, row[greater[0]]
        else:
            found.append([place])
    return [len(row) for row in found]


def fewest_fades(lanes, one, other):
    return sum(rows(one, other)[lanes:])


def right_fades(lanes, one, other, thing):
    if type(thing) is not tuple or len(thing) != len(one):
        return False
    if not all(item is None or oracles.integer(item) and 0 <= item < lanes for item in thing):
        return False
    return not any(thing[near] is not None and thing[near] == thing[far] for near, far in turned(one, other))


def right_parting(one, other, thing):
    if type(thing) is not tuple or () in thing or not all(right_turned_lot(one, other, lot) for lot in thing):
        return False
    return sorted(item for lot in thing for item in lot) == list(range(len(one))) and list(thing) == sorted(thing)


def excess(lanes, thing):
    return sum(len(lot) - lanes for lot in thing if len(lot) > lanes)


def partings(one, other):
    """All partings of few things."""
    found = [()]
    for thing in range(len(one)):
        found = [
            lots[:number] + (lots[number] + (thing,),) + lots[number + 1:] for lots in found for number in range(len(lots))
        ] + [lots + ((thing,),) for lots in found]
    return [lots for lots in found if right_parting(one, other, lots)]


# Lanes for ever


def ever_turned(lists):
    """The pairs of things that stand in unlike order in some two of the lists."""
    pairs = combinations(range(len(lists[0])), 2)
    return {pair for pair in pairs if len({ahead(order, *pair) for order in lists}) == 2}


def right_forever(lists, thing):
    """Whether a thing is lanes numbered from 0, none left out, that let no two share one that must not."""
    if not oracles.integers(thing, len(lists[0])) or sorted(set(thing)) != list(range(max(thing) + 1)):
        return False
    return not any(thing[near] == thing[far] for near, far in ever_turned(lists))


def right_crowd(lists, thing):
    return right_lot(len(lists[0]), thing) and set(combinations(thing, 2)) <= ever_turned(lists)


# A column that comes round


def steps(many):
    return [("past", place) for place in range(many - 1)] + [("over",), ("back",)]


def behind_step(widths, width, order, step):
    """The list behind a step, None if it can't be done."""
    if step == ("over",):
        return order[1:] + (order[0],)
    if step == ("back",):
        return (order[-1],) + order[:-1]
    place = step[1]
    if widths[order[place]] + widths[order[place + 1]] > width:
        return None
    found = list(order)
    found[place:place + 2] = reversed(found[place:place + 2])
    return tuple(found)


def behind_steps(widths, width, order, told):
    """The list behind some steps, or the number of the first thing that is no step or can't be done."""
    for number, step in enumerate(told):
        if type(step) is not tuple or any(type(item) not in (str, int) for item in step):
            return number
        if step not in steps(len(widths)):
            return number
        order = behind_step(widths, width, order, step)
        if order is None:
            return number
    return order


def reached_round(widths, width, order):
    """All lists to which steps lead."""
    found = {order}
    coming = [order]
    for each in coming:
        for step in steps(len(widths)):
            after = behind_step(widths, width, each, step)
            if after is not None and after not in found:
                found.add(after)
                coming.append(after)
    return found


def broad_both_ways(widths, width):
    return [(one, other) for one, other in permutations(range(len(widths)), 2) if widths[one] + widths[other] > width]


def difference(one, other, near, far):
    if ahead(one, near, far) and not ahead(other, near, far):
        return 1
    if ahead(other, near, far) and not ahead(one, near, far):
        return -1
    return 0


def right_rounds(widths, width, one, other, thing):
    if not oracles.integers(thing, len(widths)):
        return False
    pairs = broad_both_ways(widths, width)
    return all(thing[far] - thing[near] == difference(one, other, near, far) for near, far in pairs)


def pieces(widths, width):
    """The lots of boxes that hang together by broad pairs."""
    found = [{box} for box in range(len(widths))]
    for near, far in broad_both_ways(widths, width):
        joint = [piece for piece in found if near in piece or far in piece]
        found = [piece for piece in found if piece not in joint] + [set().union(*joint)]
    return found


def right_knot(widths, width, one, other, thing):
    if type(thing) is not tuple or len(thing) < 2:
        return False
    if not all(oracles.integer(item) and 0 <= item < len(widths) for item in thing) or len(set(thing)) < len(thing):
        return False
    pairs = [(thing[number - 1], thing[number]) for number in range(len(thing))]
    if not set(pairs) <= set(broad_both_ways(widths, width)):
        return False
    return sum(difference(one, other, *pair) for pair in pairs) != 0


# Samples


class ListSamples(oracles.Samples):
    """Lists, and pictures within columns, that look as if drawn at random, always the same ones."""

    def order(self, many):
        return tuple(self.source.sample(range(many), many))

    def near_order(self, order, swaps):
        """A list made of another one by some exchanges of neighbours."""
        found = list(order)
        for _ in range(swaps if len(order) > 1 else 0):
            place = self.number(0, len(order) - 2)
            found[place], found[place + 1] = found[place + 1], found[place]
        return tuple(found)

    def column_picture(self, sizes, width, reach=6):
        """A picture within a column; up and down the reach grows until the boxes find room."""
        found = []
        for size in sizes:
            while True:
                place = (self.number(0, width - size[0]), self.number(-reach, reach))
                if oracles.overlaps(sizes[:len(found)] + (size,), tuple(found) + (place,)) == []:
                    found.append(place)
                    break
                reach += self.number(0, 1)
        return tuple(found)

    def column_neighbour(self, sizes, width, picture, strokes):
        """A picture to which some free strokes lead within the column."""
        for _ in range(strokes):
            for _ in range(50):
                stroke = self.stroke(picture, 4)
                if oracles.free_by_fact(sizes, picture, stroke):
                    if within(sizes, width, oracles.moved(picture, stroke)):
                        picture = oracles.moved(picture, stroke)
                        break
        return picture
