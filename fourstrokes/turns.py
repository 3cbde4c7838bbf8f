"""Lists of things, and what stands in unlike order in two of them.

Behind is_list, one and other surely are lists of as many things, and widths tell for each thing how broad it is.
"""

from itertools import combinations

from fourstrokes.kinds import is_integer_from, is_tuple_of


def is_list(many, thing):
    """Whether a thing is a tuple of the numbers of so many things, each once."""
    if not is_tuple_of(thing, many) or not all([is_integer_from(item, 0, many - 1) for item in thing]):
        return False
    return len(set(thing)) == many


def ranks(order):
    """For each thing its place in the list."""
    found = [0] * len(order)
    for place, thing in enumerate(order):
        found[thing] = place
    return found


def turned_pairs(one, other):
    """The ascending list of the pairs of things that stand in unlike order in both lists."""
    here = ranks(one)
    there = ranks(other)
    return [
        (near, far)
        for near, far in combinations(range(len(one)), 2)
        if (here[near] < here[far]) != (there[near] < there[far])
    ]


def left_edges(widths, one, other):
    """Left edges, none below 0 and the least that can be, at which no two of a turned lot are in one column."""
    there = ranks(other)
    edges = [0] * len(one)
    for place, thing in enumerate(one):
        ends = [edges[ahead] + widths[ahead] for ahead in one[:place] if there[ahead] > there[thing]]
        edges[thing] = max(ends, default=0)
    return tuple(edges)


def right_edges(widths, edges):
    """The right edges that belong to these left ones."""
    return [edge + width for edge, width in zip(edges, widths)]


def breadth(widths, one, other):
    """The greatest width in all of a turned lot."""
    return max(right_edges(widths, left_edges(widths, one, other)))


def broadest_lot(widths, one, other):
    """A turned lot of the greatest width in all."""
    here = ranks(one)
    there = ranks(other)
    edges = left_edges(widths, one, other)
    ends = right_edges(widths, edges)
    lot = [ends.index(max(ends))]
    # What pushed the last one so far to the right stands ahead of it: one way through the list finds them all.
    for thing in one[::-1]:
        last = lot[-1]
        if ends[thing] == edges[last] and here[thing] < here[last] and there[thing] > there[last]:
            lot.append(thing)
    return tuple(sorted(lot))


def followers(lists):
    """For each thing the list of those that stand behind it in each of some lists."""
    places = [ranks(order) for order in lists]
    many = len(lists[0])
    return [
        [other for other in range(many) if all([rank[one] < rank[other] for rank in places])]
        for one in range(many)
    ]


def is_turned(one, other, lot):
    """Whether each two of a lot stand in unlike order in both lists."""
    return [thing for thing in one if thing in lot] == [thing for thing in other if thing in lot][::-1]
