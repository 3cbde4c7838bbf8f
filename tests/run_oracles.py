"""Runs of scenes, played once more by Python's own loops and calls, and scenes to run."""

from itertools import islice

from oracles import Samples

MEASURES = ("width", "height", "left", "top")


class Stuck(Exception):
    """The statement that was told last can't be done."""


def worth(told, contents):
    total = told[-1]
    for cell, content in enumerate(contents):
        total += told[cell] * content
    return total


class Play:
    """A scene played for boxes of these sizes."""

    def __init__(self, routines, sizes, begins):
        self.routines = routines
        self.sizes = sizes
        self.contents = list(begins)
        self.places = [None] * len(sizes)
        self.opened = []

    def told(self, word, coming):
        return (word, coming, tuple(self.opened), tuple(self.contents), tuple(self.places))

    def looks(self):
        """What is told ahead of each step, and at last when the run is over or stuck."""
        try:
            for coming in self.routine(0):
                yield self.told("runs", coming)
                last = coming
        except Stuck as stuck:
            yield self.told("fault", stuck.args[0])
            return
        self.opened = []
        yield self.told("over", None)

    def routine(self, number):
        self.opened.append(number)
        yield from self.body(self.routines[number])
        self.opened.pop()

    def body(self, body):
        for statement in body:
            yield from getattr(self, "do_" + statement[0])(statement)

    def need(self, held, statement):
        if not held:
            raise Stuck(statement)

    def is_box(self, number):
        return number in range(len(self.sizes))

    def test(self, test):
        one, other = [worth(told, self.contents) for told in test[1:]]
        return one < other if test[0] == "less" else one == other

    def do_set(self, statement):
        yield statement
        self.contents[statement[1]] = worth(statement[2], self.contents)

    def do_put(self, statement):
        box, x, y = [worth(told, self.contents) for told in statement[1:]]
        self.need(self.is_box(box), statement)
        yield statement
        self.places[box] = (x, y)

    def do_ask(self, statement):
        _, cell, word, told = statement
        box = worth(told, self.contents)
        self.need(self.is_box(box), statement)
        self.need(word in ("width", "height") or self.places[box] is not None, statement)
        yield statement
        (width, height), (left, top) = self.sizes[box], self.places[box] or (None, None)
        self.contents[cell] = {"width": width, "height": height, "left": left, "top": top}[word]

    def do_call(self, statement):
        self.need(len(self.opened) < 20, statement)
        yield statement
        yield from self.routine(statement[1])

    def do_if(self, statement):
        yield statement[1]
        yield from self.body(statement[2] if self.test(statement[1]) else statement[3])

    def do_while(self, statement):
        while True:
            yield statement[1]
            if not self.test(statement[1]):
                return
            yield from self.body(statement[2])


def looks(scene, sizes, begins, most):
    """The list of what is told ahead of each step and behind the last one, of at most so many steps."""
    return list(islice(Play(scene.routines, sizes, begins).looks(), most + 1))


def picture_word(scene, sizes, begins, is_picture):
    """The places that a scene works out, or the word that tells why it does not."""
    found = looks(scene, sizes, begins, 5000)[-1]
    if found[0] != "over":
        return {"runs": "on", "fault": "fault"}[found[0]]
    if None in found[4]:
        return "lacks"
    return found[4] if is_picture(found[4]) else "overlaps"


class SceneSamples(Samples):
    """Scenes that look as if drawn at random, always the same ones."""

    def sum(self, cells):
        """A sum that often tells a box, or counts on."""
        kind = self.number(0, 5)
        if kind < 2:
            return (0,) * cells + (self.number(0, 3),)
        told = [0] * cells + [self.number(-1, 2)]
        told[self.number(0, cells - 1)] = 1 if kind < 5 else self.number(-2, 3)
        return tuple(told)

    def test(self, cells):
        return (("less", "less", "same")[self.number(0, 2)], self.sum(cells), self.sum(cells))

    def statement(self, cells, many, depth):
        word = ("set", "put", "put", "ask", "call", "if", "while")[self.number(0, 6 if depth < 8 else 4)]
        if word == "set":
            return (word, self.number(0, cells - 1), self.sum(cells))
        if word == "put":
            return (word, (0,) * cells + (self.number(0, 2),) if self.number(0, 3) else self.sum(cells),
                    self.sum(cells), self.sum(cells))
        if word == "ask":
            return (word, self.number(0, cells - 1), MEASURES[self.number(0, 3)], (0,) * cells + (self.number(0, 2),))
        if word == "call":
            return (word, self.number(0, many - 1))
        if word == "if":
            return (word, self.test(cells), self.body(cells, many, depth + 1), self.body(cells, many, depth + 1))
        return (word, self.test(cells), self.body(cells, many, depth + 1))

    def body(self, cells, many, depth=1):
        """A body that is short where it is deep."""
        return tuple(self.statement(cells, many, depth) for _ in range(self.number(0, max(1, 4 - depth))))

    def routines(self, cells):
        many = self.number(1, 4)
        return tuple(self.body(cells, many) for _ in range(many))
