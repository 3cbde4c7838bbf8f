"""Fading: what can't be led in one pass of so many lanes."""

from fourstrokes.chains import chain_numbers, lots_across
from fourstrokes.errors import NoParting
from fourstrokes.kinds import is_integer_from, is_tuple_of
from fourstrokes.passing import check_lanes, check_orders
from fourstrokes.turns import followers, is_list, is_turned, turned_pairs


def fewest_fades(lanes, one, other):
    """How few things must fade."""
    return fades(lanes, one, other).count(None)


def fades(lanes, one, other):
    """A lane for each thing that does not fade, None for each that does, as few as can be."""
    check_fading(lanes, one, other)
    return chain_numbers(followers([one, other]), lanes)


def is_fades(lanes, one, other, thing):
    """Whether a thing is a lane or None for each thing, those of one lane standing in one order."""
    check_fading(lanes, one, other)
    if not is_tuple_of(thing, len(one)) or not all([is_lane_or_none(lanes, item) for item in thing]):
        return False
    return not any([
        thing[near] is not None and thing[near] == thing[far]
        for near, far in turned_pairs(one, other)
    ])


def is_lane_or_none(lanes, thing):
    """Whether a thing is the number of a lane, or None."""
    return thing is None or is_integer_from(thing, 0, lanes - 1)


def parting(lanes, one, other):
    """A parting of the greatest excess."""
    check_fading(lanes, one, other)
    return lots_across(followers([one, other]), lanes)


def is_parting(one, other, thing):
    """Whether a thing is turned lots, ascending, each of the things in just one."""
    check_orders(one, other)
    if not isinstance(thing, tuple) or not all([is_filled_lot(len(one), lot) for lot in thing]):
        return False
    if thing != tuple(sorted(thing)) or not is_list(len(one), tuple([item for lot in thing for item in lot])):
        return False
    return all([is_turned(one, other, lot) for lot in thing])


def is_filled_lot(many, thing):
    """Whether a thing is an ascending tuple of some of so many things, one at least."""
    if not isinstance(thing, tuple) or not thing or not all([is_integer_from(item, 0, many - 1) for item in thing]):
        return False
    return list(thing) == sorted(set(thing))


def excess(lanes, one, other, lots):
    """How much the lots of a parting have beyond the lanes."""
    check_fading(lanes, one, other)
    if not is_parting(one, other, lots):
        raise NoParting()
    return sum([max(0, len(lot) - lanes) for lot in lots])


def check_fading(lanes, one, other):
    """Raises the errors of what are no lanes and two lists."""
    check_lanes(lanes)
    check_orders(one, other)
