"""Lanes for ever: things that never pass one another, whichever of some lists they stand in."""

from fourstrokes.chains import chain_numbers, lots_across
from fourstrokes.errors import NoLists
from fourstrokes.passing import is_order
from fourstrokes.turns import followers, is_list

MOST_LISTS = 8


def forever(lists):
    """A lane for each thing, unlike for two that stand in unlike order in some two lists, as few as can be."""
    check_lists_alike(lists)
    return chain_numbers(followers(lists), len(lists[0]))


def crowd(lists):
    """A lot, as great as can be, each two of which stand in unlike order in some two lists."""
    needed = max(forever(lists)) + 1
    # With one lane less something is left out, so that one lot has more things than these lanes, just one more.
    return max(lots_across(followers(lists), needed - 1), key=len)


def check_lists_alike(thing):
    """Raises NoLists for what is no list or tuple of some lists of as many things, few enough."""
    if not isinstance(thing, (list, tuple)) or not 1 <= len(thing) <= MOST_LISTS:
        raise NoLists(-1)
    for index, item in enumerate(thing):
        if not is_order(item) or not is_list(len(thing[0]), item):
            raise NoLists(index)
