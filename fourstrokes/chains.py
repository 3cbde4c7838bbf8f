"""Chains of things each of which may follow the one ahead, and lots across them, in which none may follow another.

Here after tells for each thing the list of those that may follow it; what may follow one of these may follow it, too.
A chain is a way from START to END; each thing is an arc from its front to its back, which one chain alone may use.
"""

START = 0
END = 1


def chain_numbers(after, most):
    """For each thing the number of its chain, None for as few as can be, with at most so many chains."""
    used = family(after, most)
    following = {begin: end for begin, end in used}
    numbers = [None] * len(after)
    for number, first in enumerate(sorted([end for begin, end in used if begin == START])):
        node = first
        while node != END:
            numbers[thing_at(node)] = number
            node = following[following[node]]
    return tuple(numbers)


def lots_across(after, most):
    """Lots across, ascending, each thing in just one, that have in all as much as can be beyond most things each."""
    used = family(after, most)
    things = range(len(after))
    if not left_out(after, used):
        return tuple([(thing,) for thing in things])
    # As some are left out, each node is reached. Heights rise within these; within one that a chain holds they rise by
    # 1 or stay; and they do not fall from a thing to what may follow it. So the things within which they rise from one
    # height are a lot across, of which each chain holds one; a thing that stands alone is held by a chain.
    heights = reached(open_arcs(after, used))[0]
    rising = [thing for thing in things if heights[front(thing)] < heights[back(thing)]]
    lots = [(thing,) for thing in things if thing not in rising]
    for height in range(heights[END]):
        lots.append(tuple([thing for thing in rising if heights[front(thing)] == height]))
    return tuple(sorted(lots))


def family(after, most):
    """The arcs of at most so many chains that hold as many things as so many can."""
    used = {}
    for _ in range(most):
        if left_out(after, used):
            used = rerouted(used, reached(open_arcs(after, used))[1])
    return used


def left_out(after, used):
    """The list of the things that no chain holds."""
    return [thing for thing in range(len(after)) if (front(thing), back(thing)) not in used]


def front(thing):
    """The node at which chains come to a thing."""
    return 2 * thing + 2


def back(thing):
    """The node at which chains leave a thing."""
    return 2 * thing + 3


def thing_at(node):
    """The thing with this front or back."""
    return node // 2 - 1


def open_arcs(after, used):
    """The list of all (begin, end, gain) that one way more may go, used arcs also backward."""
    found = [(end, begin, -gain_of(begin, end)) for begin, end in used]
    for thing, following in enumerate(after):
        found.append((START, front(thing), 0))
        found.append((back(thing), END, 0))
        found.extend([(back(thing), front(other), 0) for other in following])
        if (front(thing), back(thing)) not in used:
            found.append((front(thing), back(thing), 1))
    return found


def gain_of(begin, end):
    """1 for the arc of a thing, 0 for any other one."""
    return 1 if thing_at(begin) == thing_at(end) else 0


def reached(arcs):
    """For each node that arcs lead to from START its height, the most that they gain, and the node ahead of it then."""
    heights = {START: 0}
    ahead = {}
    growing = True
    while growing:
        growing = False
        for begin, end, gain in arcs:
            if begin in heights and (end not in heights or heights[begin] + gain > heights[end]):
                heights[end] = heights[begin] + gain
                ahead[end] = begin
                growing = True
    return heights, ahead


def rerouted(used, ahead):
    """The used arcs when one way more has come to END; what it goes backward is used no more."""
    found = {arc: True for arc in used}
    node = END
    while node != START:
        begin = ahead[node]
        if (node, begin) in found:
            del found[(node, begin)]
        else:
            found[(begin, node)] = True
        node = begin
    return found
