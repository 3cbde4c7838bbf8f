"""Orders and rings of books, for what surely is a number of things and a book of them."""


def merged(books):
    """The book of all pairs of some books."""
    pairs = set([pair for book in books for pair in book])
    return tuple(sorted(pairs))


def peeled(many, book):
    """The things that no ring holds back, each behind all that are ahead of it, and the list of the others."""
    order = []
    rest = list(range(many))
    while rest:
        held = held_back(rest, book)
        if len(held) == len(rest):
            return order, rest
        order.extend([thing for thing in rest if thing not in held])
        rest = held
    return order, rest


def held_back(rest, book):
    """The things of the rest that stand behind another one of the rest."""
    waiting = set(rest)
    behind = set([other for one, other in book if one in waiting])
    return [thing for thing in rest if thing in behind]


def ring_in(many, book):
    """A ring of the book, None if it has none."""
    _, rest = peeled(many, book)
    if not rest:
        return None
    waiting = set(rest)
    ahead = {other: one for one, other in book if one in waiting}
    # Each thing that is left has one ahead of it that is left, too: the way back comes round at last.
    trail = [rest[0]]
    while ahead[trail[-1]] not in trail:
        trail.append(ahead[trail[-1]])
    begin = trail.index(ahead[trail[-1]])
    return least_first(trail[begin:][::-1])


def least_first(things):
    """The tuple of these things, in the same round, that begins with the least."""
    begin = things.index(min(things))
    return tuple(things[begin:] + things[:begin])


def links(things):
    """The list of the pairs of each thing with the next one, and of the last with the first."""
    return list(zip(things, things[1:] + things[:1]))


def needs(many, book):
    """For each thing the lot of those that are to be ahead of it, told as bits."""
    needed = [0] * many
    for one, other in book:
        needed[other] |= 1 << one
    return needed


def next_things(needed, placed):
    """The things that can come next behind a lot of placed ones, told as bits, ascending."""
    return [
        thing
        for thing in range(len(needed))
        if not (placed >> thing) & 1 and needed[thing] & placed == needed[thing]
    ]


def completions(needed):
    """For each lot of things, told as bits, in how many orders all others can follow it."""
    whole = (1 << len(needed)) - 1
    table = [0] * whole + [1]
    for placed in range(whole - 1, -1, -1):
        table[placed] = sum([table[placed | (1 << thing)] for thing in next_things(needed, placed)])
    return table


def numbered(needed, table, number):
    """The order with this number, ascending, where table is the completions."""
    order = []
    placed = 0
    while len(order) < len(needed):
        thing, number = chosen(needed, table, placed, number)
        order.append(thing)
        placed |= 1 << thing
    return tuple(order)


def chosen(needed, table, placed, number):
    """The thing behind the placed ones in the order with this number, and the number of what follows it."""
    things = next_things(needed, placed)
    at = 0
    while number >= table[placed | (1 << things[at])]:
        number -= table[placed | (1 << things[at])]
        at += 1
    return things[at], number
