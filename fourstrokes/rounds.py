"""A column that comes round: steps, rounds, knots."""

from fourstrokes.columns import broad_pairs, check_width
from fourstrokes.errors import NoStep, TooMany
from fourstrokes.kinds import is_integer_from, is_integers, is_tuple_of, is_word
from fourstrokes.lists import check_lists, check_pass
from fourstrokes.orders import links
from fourstrokes.turns import ranks

MOST_STEPPED = 12

OVER = ("over",)
BACK = ("back",)


def stepped(boxes, width, order, steps):
    """The list behind steps."""
    check_width(boxes, width)
    check_lists(boxes, (order,))
    if not isinstance(steps, (list, tuple)):
        raise NoStep(-1)
    pairs = broad_pairs(boxes, width)
    found = list(order)
    for number, step in enumerate(steps):
        if not is_step(boxes.many, step) or not can_step(found, pairs, step):
            raise NoStep(number)
        found = behind_step(found, step)
    return tuple(found)


def is_step(many, thing):
    """Whether a thing is a step in a list of so many boxes."""
    if is_tuple_of(thing, 1):
        return is_word(thing[0], ("over", "back"))
    return is_tuple_of(thing, 2) and is_word(thing[0], ("past",)) and is_integer_from(thing[1], 0, many - 2)


def can_step(order, pairs, step):
    """Whether a step can be done in the list, where these pairs are broad."""
    if step in (OVER, BACK):
        return True
    place = step[1]
    return tuple(sorted(order[place:place + 2])) not in pairs


def behind_step(order, step):
    """The list behind a step that can be done."""
    if step == OVER:
        return order[1:] + order[:1]
    if step == BACK:
        return order[-1:] + order[:-1]
    place = step[1]
    return order[:place] + [order[place + 1], order[place]] + order[place + 2:]


def rounds(boxes, width, one, other):
    """Rounds from the one list to the other one, the least of each piece being 0, None if there are none."""
    check_pass(boxes, width, one, other)
    shifts = shifts_of(boxes, width, one, other)
    trails = trails_of(shifts)
    heights = heights_of(trails, shifts)
    if unlike_pairs(heights, shifts):
        return None
    leasts = {}
    for trail, height in zip(trails, heights):
        leasts[trail[0]] = min(height, leasts.get(trail[0], height))
    return tuple([height - leasts[trail[0]] for trail, height in zip(trails, heights)])


def is_rounds(boxes, width, one, other, thing):
    """Whether a thing is rounds from the one list to the other one, whatever the least are."""
    check_pass(boxes, width, one, other)
    return is_integers(thing, boxes.many) and not unlike_pairs(thing, shifts_of(boxes, width, one, other))


def knot(boxes, width, one, other):
    """Boxes, each broad with the next one, that let no rounds be, None if there are none."""
    check_pass(boxes, width, one, other)
    shifts = shifts_of(boxes, width, one, other)
    trails = trails_of(shifts)
    wrong = unlike_pairs(heights_of(trails, shifts), shifts)
    if not wrong:
        return None
    begin = trails[wrong[0][0]]
    end = trails[wrong[0][1]]
    # The two ways from the first box of their piece part once and for all: behind the last box of both they are apart.
    shared = len([True for near, far in zip(begin, end) if near == far])
    return begin[shared - 1:][::-1] + end[shared:]


def is_knot(boxes, width, one, other, thing):
    """Whether a thing is a knot of the two lists."""
    check_pass(boxes, width, one, other)
    if not isinstance(thing, tuple) or len(thing) < 2:
        return False
    if not all([is_integer_from(item, 0, boxes.many - 1) for item in thing]) or len(set(thing)) < len(thing):
        return False
    shifts = shifts_of(boxes, width, one, other)
    if not all([far in shifts[near] for near, far in links(thing)]):
        return False
    return sum([shifts[near][far] for near, far in links(thing)]) != 0


def round_steps(boxes, width, one, other):
    """Steps that lead from the one list to the other one, None if none do."""
    found = rounds(boxes, width, one, other)
    if boxes.many > MOST_STEPPED:
        raise TooMany(MOST_STEPPED)
    if found is None:
        return None
    # Where each box is to come to, if the places are counted on behind the end, round by round.
    goals = [place + boxes.many * times for place, times in zip(ranks(other), found)]
    return steps_to([goals[box] for box in one])


def steps_to(goals):
    """Steps by which the boxes of a list come to goals, none of which passes two that are in order.

    Broad boxes are in order all the time, since their rounds keep them so. A box that goes over the seam is met there
    anew one round later; once the last goal is not beyond the first one of the next round, all boxes are in order.
    """
    many = len(goals)
    queue, steps = settled(goals)
    while queue[-1] > queue[0] + many:
        queue, passings = settled(queue[1:] + [queue[0] + many])
        steps.append(OVER)
        steps.extend(passings)
    return tuple(steps) + (OVER,) * (-queue[0] % many)


def settled(goals):
    """The goals in ascending order, and the list of the steps within the column that bring them into it."""
    queue = list(goals)
    steps = []
    for end in range(len(queue) - 1, 0, -1):
        for place in range(end):
            if queue[place] > queue[place + 1]:
                queue[place], queue[place + 1] = queue[place + 1], queue[place]
                steps.append(("past", place))
    return queue, steps


def shifts_of(boxes, width, one, other):
    """For each box a dict that tells, of each one broad with it, by how much greater its round is to be."""
    here = ranks(one)
    there = ranks(other)
    shifts = [{} for _ in range(boxes.many)]
    for near, far in broad_pairs(boxes, width):
        shift = int(here[near] < here[far]) - int(there[near] < there[far])
        shifts[near][far] = shift
        shifts[far][near] = -shift
    return shifts


def trails_of(shifts):
    """For each box a way to it by broad pairs from the first box of its piece."""
    trails = {}
    for first in range(len(shifts)):
        coming = [] if first in trails else [(first,)]
        while coming:
            trail = coming.pop()
            if trail[-1] not in trails:
                trails[trail[-1]] = trail
                coming.extend([trail + (box,) for box in shifts[trail[-1]]])
    return [trails[box] for box in range(len(shifts))]


def heights_of(trails, shifts):
    """For each box the sum of the differences on the way to it."""
    return [sum([shifts[near][far] for near, far in zip(trail, trail[1:])]) for trail in trails]


def unlike_pairs(heights, shifts):
    """The list of the broad pairs, either way round, whose heights have not the difference that is due."""
    return [
        (near, far)
        for near in range(len(shifts))
        for far in shifts[near]
        if heights[far] - heights[near] != shifts[near][far]
    ]
