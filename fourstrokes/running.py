"""Runs of scenes: statements done one by one, until all are done or one can't be.

The state of a run is a triple (contents, places, frames). A frame is a triple (routine, body, at) of an open body, the
innermost one last: the number of the routine whose body it is, None for a body within a statement; the body; the place
in it of the statement that is next as soon as the frames behind this one are left. A run that is over has no frames.
"""

from fourstrokes.boxes import overlapping
from fourstrokes.errors import NoContents, NoNumber, NoScene, NothingDone, NotRunning
from fourstrokes.kinds import is_integer_from, is_integers

MOST_STEPS = 5000
MOST_OPEN = 20

# Both in the order of the axes along which they are measured.
LENGTHS = ("width", "height")
EDGES = ("left", "top")


def ran(scene, boxes, begins, most):
    """The word, the contents and the places behind so many steps, or fewer if it is over or at a fault."""
    runner = SceneRunner(scene, boxes, begins)
    runner.go(most)
    word = runner.word()
    return ("on" if word == "runs" else word, runner.contents(), runner.places())


def picture_of(scene, boxes, begins):
    """The picture that a run of the scene works out."""
    word, _, places = ran(scene, boxes, begins, MOST_STEPS)
    if word != "over":
        raise NoScene(word)
    if None in places:
        raise NoScene("lacks")
    if overlapping(boxes, places):
        raise NoScene("overlaps")
    return places


class SceneRunner:
    """A run of a scene, led on and back step by step; it keeps the states behind all its steps."""

    def __init__(self, scene, boxes, begins):
        if not is_integers(begins, scene.cells):
            raise NoContents()
        self._scene = scene
        self._boxes = boxes
        frames = without_done(((0, scene.routines[0], 0),))
        self._states = [(begins, (None,) * boxes.many, frames)]

    def word(self):
        """Whether the run runs, is over, or at a fault."""
        state = self._states[-1]
        if next_statement(state) is None:
            return "over"
        return "runs" if can_do(self._boxes, state) else "fault"

    def coming(self):
        """The statement that is next, of an if or while its test, None if it is over."""
        statement = next_statement(self._states[-1])
        if statement is not None and statement[0] in ("if", "while"):
            return statement[1]
        return statement

    def opened(self):
        """The numbers of the open routines, the first first."""
        return open_routines(self._states[-1])

    def contents(self):
        """What the cells hold."""
        return self._states[-1][0]

    def places(self):
        """For each box where it was put last, None for one that is not put."""
        return self._states[-1][1]

    def step(self):
        """Does the next statement."""
        if self.word() != "runs":
            raise NotRunning()
        self._states.append(behind_step(self._scene, self._boxes, self._states[-1]))

    def back(self):
        """Takes the last step back."""
        if self.steps() == 0:
            raise NothingDone()
        self._states.pop()

    def steps(self):
        """How many steps were done and are not taken back."""
        return len(self._states) - 1

    def go(self, most):
        """Does at most so many steps while it runs, and tells how many."""
        if not is_integer_from(most, 0, MOST_STEPS):
            raise NoNumber()
        done = 0
        while done < most and self.word() == "runs":
            self.step()
            done += 1
        return done

    def copy(self):
        """Another run with the same steps behind it, that goes on apart."""
        other = SceneRunner(self._scene, self._boxes, self.contents())
        other._states = list(self._states)
        return other


def next_statement(state):
    """The statement that is next, None if the run is over."""
    frames = state[2]
    if not frames:
        return None
    _, body, at = frames[-1]
    return body[at]


def open_routines(state):
    """The tuple of the numbers of the open routines, the first first."""
    return tuple([frame[0] for frame in state[2] if frame[0] is not None])


def can_do(boxes, state):
    """Whether the next statement can be done."""
    contents, places, _ = state
    statement = next_statement(state)
    if statement[0] == "call":
        return len(open_routines(state)) < MOST_OPEN
    if statement[0] == "put":
        return is_box(boxes, worth(statement[1], contents))
    if statement[0] == "ask":
        box = worth(statement[3], contents)
        return is_box(boxes, box) and (statement[2] in LENGTHS or places[box] is not None)
    return True


def is_box(boxes, number):
    """Whether some box has this number."""
    return 0 <= number < boxes.many


def behind_step(scene, boxes, state):
    """The state behind the next statement, which can be done."""
    contents, places, frames = state
    statement = next_statement(state)
    frames = without_done(frames_behind(scene, contents, frames, statement))
    if statement[0] == "put":
        box, x, y = [worth(told, contents) for told in statement[1:]]
        return (contents, exchanged(places, box, (x, y)), frames)
    if statement[0] == "set":
        return (exchanged(contents, statement[1], worth(statement[2], contents)), places, frames)
    if statement[0] == "ask":
        found = measured(boxes, places, worth(statement[3], contents), statement[2])
        return (exchanged(contents, statement[1], found), places, frames)
    return (contents, places, frames)


def frames_behind(scene, contents, frames, statement):
    """The frames behind a statement, with those of bodies that are done."""
    routine, body, at = frames[-1]
    beyond = frames[:-1] + ((routine, body, at + 1),)
    if statement[0] == "call":
        return beyond + ((statement[1], scene.routines[statement[1]], 0),)
    if statement[0] == "if":
        return beyond + ((None, statement[2] if holds(statement[1], contents) else statement[3], 0),)
    if statement[0] == "while" and holds(statement[1], contents):
        # The while itself stays next in its body: its test comes again once the inner body is left.
        return frames + ((None, statement[2], 0),)
    return beyond


def without_done(frames):
    """The frames without those at the end whose bodies are done."""
    while frames and frames[-1][2] == len(frames[-1][1]):
        frames = frames[:-1]
    return frames


def holds(test, contents):
    """Whether a test holds for these contents."""
    word, one, other = test
    if word == "less":
        return worth(one, contents) < worth(other, contents)
    return worth(one, contents) == worth(other, contents)


def worth(told, contents):
    """What a sum comes to for these contents."""
    return sum([multiple * content for multiple, content in zip(told, contents)]) + told[-1]


def measured(boxes, places, box, word):
    """The length or the edge of a box that the word names."""
    if word in LENGTHS:
        return boxes.sizes[box][LENGTHS.index(word)]
    return places[box][EDGES.index(word)]


def exchanged(things, place, thing):
    """The tuple of these things with another one at this place."""
    return things[:place] + (thing,) + things[place + 1:]
