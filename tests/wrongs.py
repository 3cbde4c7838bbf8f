"""Wrong arguments: each one alone, and several at once, of which the one that is due first counts."""

from itertools import combinations

from things import spoiled, strange_things


def raised(call, arguments):
    """The error that a call raises, None if it raises none."""
    try:
        call(*arguments)
    except Exception as error:
        return error
    return None


def check_due(case, call, right, wrongs):
    """Of wrong arguments, each a triple (place, thing, error), given in the order in which their errors are due,
    each choice of one or more raises the first."""
    case.assertIsNone(raised(call, right))
    for size in range(1, len(wrongs) + 1):
        for chosen in combinations(wrongs, size):
            if len({place for place, _, _ in chosen}) < size:
                continue
            arguments = list(right)
            for place, thing, _ in chosen:
                arguments[place] = thing
            case.assertIs(type(raised(call, arguments)), chosen[0][2], (call.__name__, arguments))


def check_kinds(case, call, right, place, is_right, error, more=()):
    """Whatever stands in the place of a right argument and is none raises its error; more are things to try, too."""
    things = strange_things() + list(more)
    if type(right[place]) is tuple:
        things += spoiled(right[place])
    wrong = [thing for thing in things if not is_right(thing)]
    case.assertGreater(len(wrong), 50)
    for thing in wrong:
        arguments = list(right)
        arguments[place] = thing
        case.assertIs(type(raised(call, arguments)), error, (call.__name__, thing))


def check_judge(case, call, arguments, is_right, right):
    """A function that judges its last argument tells of anything what is right, by a flag."""
    for thing in strange_things() + spoiled(right):
        case.assertIs(call(*arguments, thing), is_right(thing), (call.__name__, thing))
