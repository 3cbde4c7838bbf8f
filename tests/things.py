"""Things of every kind that a caller may pass in a wrong place, and ways to spoil a right one."""

from fourstrokes.boxes import Boxes
from fourstrokes.desks import Desk
from fourstrokes.errors import BadBook, NoPlaces, NotFree, StrokeError
from fourstrokes.pages import Page
from fourstrokes.running import SceneRunner
from fourstrokes.scenes import Scene


def nested(depth, wrap, core):
    """A thing wrapped so often."""
    thing = core
    for _ in range(depth):
        thing = wrap(thing)
    return thing


def deep_things():
    """Things nested 40 deep."""
    return [
        nested(39, lambda thing: (thing,), ()),
        nested(39, lambda thing: [thing], []),
        nested(39, lambda thing: {0: thing}, {}),
        nested(39, lambda thing: (thing, 1), 0),
        nested(39, lambda thing: (1, thing), 0),
        nested(13, lambda thing: ([{"level": thing}], 0), None),
    ]


def plain_things():
    """A thing of each built-in kind but floats, complex numbers and sets, and some of the package."""
    return [
        None, True, False, Ellipsis, NotImplemented,
        0, 1, -1, 2, 41, 10 ** 20 - 1, -(10 ** 20) + 1,
        "", "a", "level", "upright", "ab", "0", "\n", "a" * 20000,
        b"", b"ab", bytearray(b"ab"), memoryview(b"ab"),
        [], [0], [0, 1], [(0, 1)], [(0, 0), (2, 0)], ["level", (0, 0)],
        {}, {0: 1}, {"level": (0, 0)}, {0: (0, 0), 1: (2, 0)},
        (), (0,), (0, 1), (0, 1, 2), ((),), ((), ()), ((0, 1),), (None, None), ("level",), ("le", "vel"),
        (0,) * 19000, ((0, 0),) * 6000,
        range(0), range(2), slice(0, 2), iter([0, 1]), zip([0], [1]), enumerate([0]), reversed([0, 1]), map(str, [1]),
        {0: 1}.keys(), {0: 1}.values(), {0: 1}.items(),
        len, "".join, lambda: None, (number for number in (0, 1)), int, tuple, object, object(), type, property(),
        ValueError("no"), KeyError(0), StopIteration(),
        Boxes, Boxes(((1, 1),)), Boxes(((2, 1), (2, 1))), Scene, Scene(1, ((),)),
        SceneRunner, SceneRunner(Scene(1, ((),)), Boxes(((1, 1),)), (0,)), Page, Page(Boxes(((1, 1),)), ((0, 0),), None),
        Desk, Desk(),
        StrokeError, NoPlaces(), BadBook(0), NotFree((0, 1)),
    ]


def strange_things():
    """All of these."""
    return plain_things() + deep_things()


def spoiled(right):
    """Tuples like a right one in which something, anywhere, is another thing, lacks, or is too much."""
    found = list(reshaped(right))
    for index, item in enumerate(right):
        for thing in strange_things():
            found.append(right[:index] + (thing,) + right[index + 1:])
        if isinstance(item, tuple):
            found.extend(right[:index] + (thing,) + right[index + 1:] for thing in spoiled_short(item))
    return found


def spoiled_short(right):
    """Like spoiled, of a tuple within, with fewer things."""
    found = list(reshaped(right))
    for index, item in enumerate(right):
        for thing in (None, True, False, "0", b"0", [0], (0,), (), {}, [], "level", -1, 10 ** 20 - 1, Boxes(((1, 1),))):
            found.append(right[:index] + (thing,) + right[index + 1:])
        if isinstance(item, tuple):
            found.extend(right[:index] + (thing,) + right[index + 1:] for thing in spoiled_short(item))
    return found


def reshaped(right):
    """The items of a tuple, fewer, more, doubled, turned round, or in something that is no tuple."""
    return [
        right, right[:-1], right[1:], right + right[:1], right + (0,), right + (None,), right[::-1], right + right,
        list(right), dict(enumerate(right)), (right,), (list(right),), iter(right), str(right),
    ]
