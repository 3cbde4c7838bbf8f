"""The whole program: Part 0, the examples, and pages, films, scripts, texts and a desk together."""

import copy
import unittest
from itertools import product

import oracles
from desk_oracles import DeskModel
from fourstrokes import errors
from fourstrokes.boards import fewest, is_twist, script_by, shortest, twist
from fourstrokes.books import above, count_orders, is_ring, left_of, order_at, passed_on, ring
from fourstrokes.boxes import Boxes, is_picture, overlaps
from fourstrokes.columns import barring, broad, column_script, column_three, is_within
from fourstrokes.desks import Desk
from fourstrokes.drawings import drawn, read_drawn
from fourstrokes.errors import StrokeError
from fourstrokes.fading import excess, fades, fewest_fades, is_fades, is_parting, parting
from fourstrokes.films import film_script, shown
from fourstrokes.lanes import crowd, forever
from fourstrokes.lists import broadest, can_pass, is_stand, list_of, listed, stand, turned
from fourstrokes.pages import Page
from fourstrokes.passing import fewest_passes, figures, is_passing, lists_in_pass, passes
from fourstrokes.rounds import is_knot, is_rounds, knot, round_steps, rounds, stepped
from fourstrokes.rules import fewest_kept, is_keeping, shortest_kept
from fourstrokes.running import SceneRunner, picture_of, ran
from fourstrokes.scenes import Scene
from fourstrokes.scripts import is_script, joined, led, pictures, taken_back
from fourstrokes.sources import read_scene, scene_text
from fourstrokes.strokes import first_hit, is_free, moved, places_at
from fourstrokes.texts import picture_text, read_picture, read_script, script_text
from oracles import Samples
from test_interface import CLASSES, FUNCTIONS
from things import strange_things
from wrongs import raised

TWO = Boxes(((2, 1), (2, 1)))
THREE = Boxes(((1, 1), (1, 1), (1, 1)))
SIDE = ((0, 0), (2, 0))
TURNED = ((2, 0), (0, 0))
PILE = ((0, 0), (0, 1))
HEAP = ((0, 1), (0, 0))
STROKE = ("level", (1, 4))
SCRIPT = (STROKE, ("upright", (0, 7)))
ROW = Scene(1, ((("while", ("less", (1, 0), (0, 2)), (("put", (1, 0), (2, 0), (0, 0)), ("set", 0, (1, 1)))),),))
BOOK = ((0, 1), (1, 2))
UP, DOWN = (0, 1, 2), (2, 1, 0)

# For each function right arguments, and the errors that are named for each of them, "" where none is, or as it judges.
CALLS = {
    overlaps: ((TWO, SIDE), ("", "NoPlaces")), is_picture: ((TWO, SIDE), ("", "judge")),
    left_of: ((TWO, SIDE), ("", "NoPicture")), above: ((TWO, SIDE), ("", "NoPicture")),
    ring: ((3, BOOK), ("NoNumber BadBook", "BadBook")),
    is_ring: ((3, ((0, 1), (1, 0)), (0, 1)), ("NoNumber BadBook", "BadBook", "judge")),
    passed_on: ((3, BOOK), ("NoNumber BadBook", "BadBook")),
    count_orders: ((3, BOOK), ("NoNumber BadBook TooMany", "BadBook")),
    order_at: ((3, BOOK, 0), ("NoNumber BadBook TooMany", "BadBook NoNumber", "NoNumber")),
    moved: ((TWO, SIDE, STROKE), ("", "NoPicture", "NoStroke")),
    places_at: ((TWO, SIDE, STROKE, (1, 2)), ("", "NoPicture", "NoStroke", "NoMoment")),
    is_free: ((TWO, SIDE, STROKE), ("", "NoPicture", "judge")), first_hit: ((TWO, SIDE, STROKE), ("", "NoPicture", "NoStroke")),
    led: ((TWO, SIDE, SCRIPT), ("", "NoPicture", "NoScript NotFree")), is_script: ((TWO, SIDE, SCRIPT), ("", "NoPicture", "judge")),
    pictures: ((TWO, SIDE, SCRIPT), ("", "NoPicture", "NoScript NotFree")),
    taken_back: ((TWO, SIDE, SCRIPT), ("", "NoPicture", "NoScript NotFree")),
    joined: ((TWO, SIDE, SCRIPT), ("", "NoPicture", "NoScript NotFree")),
    fewest: ((TWO, SIDE, TURNED), ("", "NoPicture", "NoPicture")), shortest: ((TWO, SIDE, TURNED), ("", "NoPicture", "NoPicture")),
    script_by: ((TWO, SIDE, TURNED, ("level", "upright", "level")), ("", "NoPicture", "NoPicture", "NoWays")),
    twist: ((TWO, SIDE, TURNED, "level"), ("", "NoPicture", "NoPicture", "NoWay")),
    is_twist: ((TWO, SIDE, TURNED, "level", ((0, 0), (1, 1))), ("", "NoPicture", "NoPicture", "NoWay", "judge")),
    is_keeping: ((TWO, (((0, 1),), ()), SIDE), ("", "NoRules", "judge")),
    fewest_kept: ((TWO, (((0, 1),), ()), SIDE, SIDE), ("", "NoRules NotKept", "NoPicture NotKept", "NoPicture NotKept")),
    shortest_kept: ((TWO, (((0, 1),), ()), SIDE, SIDE), ("", "NoRules NotKept", "NoPicture NotKept", "NoPicture NotKept")),
    is_within: ((TWO, 4, SIDE), ("", "NoWidth", "judge")), broad: ((TWO, 4), ("", "NoWidth")),
    barring: ((TWO, 4, SIDE, PILE), ("", "NoWidth NotWithin", "NoPicture NotWithin", "NoPicture NotWithin")),
    column_script: ((TWO, 4, SIDE, PILE), ("", "NoWidth NotWithin", "NoPicture NotWithin", "NoPicture NotWithin")),
    column_three: ((TWO, 4, SIDE, PILE), ("", "NoWidth NotWithin", "NoPicture NotWithin", "NoPicture NotWithin")),
    listed: ((TWO, (1, 0)), ("", "NoList")), list_of: ((TWO, PILE), ("", "NoPicture")),
    turned: ((TWO, (0, 1), (1, 0)), ("", "NoList", "NoList")), broadest: ((TWO, (0, 1), (1, 0)), ("", "NoList", "NoList")),
    can_pass: ((TWO, 4, (0, 1), (1, 0)), ("", "NoWidth", "NoList", "NoList")),
    stand: ((TWO, 4, (0, 1), (1, 0)), ("", "NoWidth", "NoList", "NoList")),
    is_stand: ((TWO, 4, (0, 1), (1, 0), (0, 2)), ("", "NoWidth", "NoList", "NoList", "judge")),
    lists_in_pass: ((THREE, 2, UP), ("", "NoWidth", "NoList")),
    fewest_passes: ((THREE, 2, UP, DOWN), ("", "NoWidth", "NoList", "NoList")),
    passes: ((THREE, 2, UP, DOWN), ("", "NoWidth", "NoList", "NoList")), is_passing: ((2, (UP, (1, 0, 2))), ("NoLanes", "judge")),
    figures: ((2, UP, DOWN), ("NoLanes NoFigures", "NoList", "NoList")),
    fewest_fades: ((2, UP, DOWN), ("NoLanes", "NoList", "NoList")), fades: ((2, UP, DOWN), ("NoLanes", "NoList", "NoList")),
    is_fades: ((2, UP, DOWN, (0, 1, None)), ("NoLanes", "NoList", "NoList", "judge")),
    parting: ((2, UP, DOWN), ("NoLanes", "NoList", "NoList")), is_parting: ((UP, DOWN, (UP,)), ("NoList", "NoList", "judge")),
    excess: ((2, UP, DOWN, (UP,)), ("NoLanes", "NoList NoParting", "NoList NoParting", "NoParting")),
    forever: (([UP, DOWN],), ("NoLists",)), crowd: (([UP, DOWN],), ("NoLists",)),
    stepped: ((THREE, 2, UP, [("past", 0), ("over",)]), ("", "NoWidth NoStep", "NoList", "NoStep")),
    rounds: ((THREE, 1, UP, (1, 2, 0)), ("", "NoWidth", "NoList", "NoList")),
    is_rounds: ((THREE, 1, UP, (1, 2, 0), (0, 1, 1)), ("", "NoWidth", "NoList", "NoList", "judge")),
    knot: ((THREE, 1, UP, DOWN), ("", "NoWidth", "NoList", "NoList")),
    is_knot: ((THREE, 1, UP, DOWN, UP), ("", "NoWidth", "NoList", "NoList", "judge")),
    round_steps: ((THREE, 1, UP, (1, 2, 0)), ("", "NoWidth", "NoList", "NoList")),
    ran: ((ROW, TWO, (0,), 9), ("", "", "NoContents", "NoNumber")), picture_of: ((ROW, TWO, (0,)), ("", "", "NoContents NoScene")),
    film_script: ((TWO, (SIDE, TURNED)), ("", "NoFilm")),
    shown: ((TWO, SIDE, SCRIPT, (1, 2)), ("", "NoPicture NotFree", "NoScript NotFree NoTime", "NoTime")),
    picture_text: ((TWO, SIDE), ("", "NoPicture")), script_text: ((TWO, SCRIPT), ("", "NoScript")),
    read_picture: (("box 2 1 0 0\n",), ("BadText BadBoxes NoPicture",)), read_script: ((TWO, "level 1 4\n"), ("", "BadText NoScript")),
    scene_text: ((ROW,), ("",)), read_scene: (("cells 1\nroutine\n",), ("BadText BadScene",)),
    drawn: ((TWO, SIDE), ("", "NoPicture TooMany")), read_drawn: (("AA\n",), ("BadText NoDrawing",)),
    Boxes: ((TWO.sizes,), ("BadBoxes",)), Scene: ((1, ROW.routines), ("BadScene", "BadScene")),
    SceneRunner: ((ROW, TWO, (0,)), ("", "", "NoContents")), Page: ((TWO, SIDE, 4), ("", "NoPicture", "NoWidth NotWithin")),
}


def plain(thing):
    """What was told, with objects of the package told by what they hold."""
    if isinstance(thing, Boxes):
        return ("boxes", thing.sizes)
    if isinstance(thing, Scene):
        return ("scene", thing.cells, thing.routines)
    if isinstance(thing, SceneRunner):
        return ("runner", thing.word(), thing.coming(), thing.opened(), thing.contents(), thing.places(), thing.steps())
    if isinstance(thing, Page):
        return ("page", thing.boxes().sizes, thing.picture(), thing.width(), thing.deeds(), thing.strokes())
    if isinstance(thing, (list, tuple)):
        return (type(thing), [plain(item) for item in thing])
    return thing


class Examples(unittest.TestCase):

    def test_e01(self):
        self.assertEqual(overlaps(TWO, ((0, 0), (1, 0))), [(0, 1)])
        self.assertEqual(left_of(TWO, ((0, 0), (2, 0))), ((0, 1),))
        self.assertEqual(above(TWO, ((0, 0), (1, 1))), ((0, 1),))

    def test_e02(self):
        self.assertEqual(first_hit(TWO, ((0, 0), (4, 0)), ("level", (4, 0))), ((1, 4), 0, 1))
        self.assertIs(is_free(TWO, ((0, 0), (4, 0)), ("upright", (5, 0))), True)

    def test_e03(self):
        self.assertEqual(fewest(TWO, SIDE, TURNED), 3)
        self.assertEqual(twist(TWO, SIDE, TURNED, "level"), ((0, 0), (1, 1)))
        self.assertIsNone(twist(TWO, SIDE, TURNED, "upright"))

    def test_e04(self):
        self.assertEqual(count_orders(3, ((0, 2),)), 3)
        self.assertEqual(order_at(3, ((0, 2),), 2), (1, 0, 2))

    def test_e05(self):
        self.assertEqual(broad(TWO, 3), [(0, 1)])
        self.assertEqual(barring(TWO, 3, PILE, HEAP), (0, 1))
        self.assertIs(column_script(TWO, 4, PILE, HEAP) is None, False)

    def test_e06(self):
        self.assertIs(can_pass(THREE, 2, UP, DOWN), False)
        self.assertEqual(broadest(THREE, UP, DOWN), UP)
        self.assertEqual(fewest_passes(THREE, 2, UP, DOWN), 2)
        self.assertEqual(lists_in_pass(THREE, 2, UP), 5)

    def test_e07(self):
        self.assertEqual(fewest_fades(2, UP, DOWN), 1)
        self.assertEqual(parting(2, UP, DOWN), (UP,))
        self.assertEqual(crowd([UP, (1, 0, 2)]), (0, 1))

    def test_e08(self):
        self.assertEqual(len(knot(THREE, 1, UP, (0, 2, 1))), 3)
        self.assertEqual(rounds(THREE, 1, UP, (1, 2, 0)), (0, 1, 1))

    def test_e09(self):
        scene = read_scene("cells 1\nroutine\nwhile c0 < 2\nput c0 2c0 0\nset 0 c0+1\nend\n")
        self.assertEqual(picture_of(scene, TWO, (0,)), SIDE)
        self.assertEqual(drawn(TWO, ((0, 0), (2, 1))), "AA\n  BB\n")


class General(unittest.TestCase):

    def test_each_function_and_class_is_tried_here(self):
        words = {call.__name__ for call in CALLS}
        for functions in FUNCTIONS.values():
            self.assertLessEqual(set(functions), words)
        self.assertEqual({word for classes in CLASSES.values() for word in classes} - words, {"Desk"})
        for call, (right, named) in CALLS.items():
            self.assertIsNone(raised(call, right), call)
            self.assertEqual(len(right), len(named), call)

    def test_all_errors_are_raised_by_something(self):
        named = set(" ".join(word for _, each in CALLS.values() for word in each).split()) - {"judge"}
        named |= {"NotRunning", "NothingDone", "Barred", "NoBox", "NoRoom", "NoSize", "Full", "Last", "NoLine", "NoName", "StrokeError"}
        self.assertEqual(named, {word for word in vars(errors) if not word.startswith("_")})

    def test_functions_that_judge_return_flags(self):
        for call, (right, named) in CALLS.items():
            if call.__name__.startswith(("is_", "can_")):
                self.assertIs(type(call(*right)), bool)
            self.assertEqual(call.__name__.startswith("is_"), named[-1] == "judge")
            if named[-1] == "judge":
                self.assertIs(call(*right), True, call)
                for thing in strange_things():
                    self.assertIs(type(call(*right[:-1], thing)), bool)

    def test_equal_calls_give_equal_answers_and_change_no_arguments(self):
        for call, (right, _) in CALLS.items():
            ahead = plain(right)
            first = plain(call(*right))
            self.assertEqual(plain(call(*copy.deepcopy(right))), first, call)
            self.assertEqual(plain(call(*right)), first, call)
            self.assertEqual(plain(right), ahead, call)

    def test_lists_that_are_returned_are_new_and_may_be_spoiled(self):
        for call, right in (
            (overlaps, (TWO, ((0, 0), (1, 0)))), (pictures, (TWO, SIDE, SCRIPT)), (broad, (TWO, 3)), (turned, (TWO, (0, 1), (1, 0))),
        ):
            found = call(*right)
            self.assertIs(type(found), list)
            due = list(found)
            found.append("more")
            found[0] = None
            again = call(*right)
            self.assertIsNot(again, found)
            self.assertEqual(again, due)

    def test_lists_that_are_passed_may_be_spoiled_behind(self):
        lists = [UP, DOWN]
        first = forever(lists)
        lists.append(None)
        self.assertEqual(first, forever([UP, DOWN]))
        steps = [("over",)]
        self.assertEqual(stepped(THREE, 2, UP, steps), (1, 2, 0))
        self.assertEqual(steps, [("over",)])

    def test_objects_are_equal_to_nothing_of_another_class(self):
        objects = [TWO, ROW, SceneRunner(ROW, TWO, (0,)), Page(TWO, SIDE, None), Desk()]
        for one, other in product(objects, objects):
            self.assertIs(one == other, one is other)
        for one in objects:
            for thing in (None, TWO.sizes, ROW.routines, "Boxes", 0, (), [], vars(one)):
                self.assertIs(one == thing, False)

    def test_no_error_but_those_that_are_named(self):
        for call, (right, named) in CALLS.items():
            for place, words in enumerate(named):
                allowed = tuple(getattr(errors, word) for word in words.split() if word != "judge")
                for thing in strange_things() if words else []:
                    arguments = list(right)
                    arguments[place] = thing
                    error = raised(call, arguments)
                    self.assertTrue(error is None or type(error) in allowed, (call, place, thing, error))

    def test_two_wrong_at_once(self):
        things = strange_things()
        for number, (call, (right, named)) in enumerate(CALLS.items()):
            places = [place for place, words in enumerate(named) if words]
            for first, second in zip(places, places[1:]):
                for turn, thing in enumerate(things):
                    other = things[(turn * 7 + number) % len(things)]
                    self.check_two(call, right, first, thing, second, other)

    def check_two(self, call, right, first, thing, second, other):
        """Of two wrong arguments, where either alone raises, the error of both is that of one of them, the first
        one's if their errors are of unlike kinds and the first one's kind is named first."""
        arguments = list(right)
        arguments[first] = thing
        alone = raised(call, arguments)
        arguments[second] = other
        both = raised(call, arguments)
        self.assertTrue(both is None or isinstance(both, StrokeError), (call, thing, other, both))
        late = (errors.NotWithin, errors.NotKept, errors.NotFree, errors.NoFigures, errors.TooMany, errors.NoStep, errors.NoParting)
        if alone is not None and type(alone) not in late:
            self.assertIs(type(both), type(alone), (call, thing, other))


class Together(unittest.TestCase):

    def film(self, samples):
        sizes, one, other = samples.shuffled()
        film = [one, other] + [samples.picture(sizes) for _ in range(samples.number(0, 2))]
        return Boxes(sizes), tuple(film)

    def test_pages_led_along_films(self):
        samples = Samples(151)
        for _ in range(60):
            boxes, film = self.film(samples)
            script = film_script(boxes, film)
            by_leads, by_strokes = Page(boxes, film[0], None), Page(boxes, film[0], None)
            for picture in film[1:]:
                by_leads.lead(picture)
                self.assertEqual(by_leads.picture(), picture)
            self.assertEqual((by_leads.strokes(), by_leads.deeds()), (len(script), len(film) - 1))
            for stroke, picture in zip(script, pictures(boxes, film[0], script)):
                self.assertEqual(by_strokes.picture(), picture)
                by_strokes.stroke(stroke)
            self.assertEqual((by_strokes.picture(), by_strokes.strokes()), (film[-1], len(script)))
            for stroke in taken_back(boxes, film[0], script):
                by_strokes.stroke(stroke)
            self.assertEqual((by_strokes.picture(), by_strokes.deeds()), (film[0], 2 * len(script)))
            for stroke in joined(boxes, film[0], script):
                by_strokes.stroke(stroke)
            self.assertEqual(by_strokes.picture(), film[-1])
            for _ in range(len(film) - 1):
                by_leads.undo()
            self.assertEqual((by_leads.picture(), by_leads.strokes()), (film[0], 0))

    def test_the_same_by_the_lines_of_a_desk(self):
        samples = Samples(152)
        for _ in range(25):
            boxes, film = self.film(samples)
            script = film_script(boxes, film)
            desk = Desk()
            for number, picture in enumerate(film):
                desk.tell(f"page {'abcdefgh'[number]} board {picture_text(boxes, picture)}".replace("\n", ";"))
            for name, other in zip("abcdefgh"[:len(film) - 1], "bcdefgh"):
                self.assertEqual(desk.tell(f"far {name} {other}"), str(fewest(boxes, film["abcdefgh".index(name)], film["abcdefgh".index(other)])))
            there = script_text(boxes, script)
            back = script_text(boxes, taken_back(boxes, film[0], script))
            self.assertEqual(read_script(boxes, there), script)
            short = script_text(boxes, joined(boxes, film[0], script))
            for lines, goal in ((there, film[-1]), (back, film[0]), (short, film[-1])):
                for line in lines.splitlines():
                    word, goals = line.split(" ", 1)
                    self.assertEqual(desk.tell(f"{word} a {goals}"), "ok")
                text = desk.tell("text a").replace(";", "\n")
                self.assertEqual(read_picture(text), (boxes, goal))
            self.assertEqual(desk.tell("strokes a"), str(len((there + back + short).splitlines())))
            self.assertEqual(desk.tell("deeds a"), desk.tell("strokes a"))

    def test_films_shown_at_whole_times_are_their_pictures(self):
        samples = Samples(153)
        for _ in range(30):
            boxes, film = self.film(samples)
            script = film_script(boxes, film)
            for time, picture in enumerate(pictures(boxes, film[0], script)):
                found = shown(boxes, film[0], script, (time, 1))
                self.assertEqual(found, tuple(((x, 1), (y, 1)) for x, y in picture))

    def test_scenes_that_put_the_boxes_of_a_picture(self):
        samples = Samples(154)
        for _ in range(40):
            boxes, film = self.film(samples)
            lines = "".join(f"put {box} {x} {y}\n" for box, (x, y) in enumerate(film[1]))
            scene = read_scene("cells 1\nroutine\n" + lines)
            self.assertEqual(picture_of(scene, boxes, (0,)), film[1])
            desk, model = Desk(), DeskModel()
            for line in (f"page a board {picture_text(boxes, film[0])}", f"scene b {scene_text(scene)}", "lead a b 0", "show a"):
                line = line.replace("\n", ";")
                self.assertEqual(desk.tell(line), model.tell(line))
            again, picture = read_drawn(desk.tell("show a").replace(";", "\n"))
            self.assertEqual((again, fewest(boxes, picture, film[1]) <= 2), (boxes, True))

    def test_columns_there_and_back(self):
        page = Page(TWO, PILE, 4)
        script = column_script(TWO, 4, PILE, HEAP)
        for stroke in script + taken_back(TWO, PILE, script):
            page.stroke(stroke)
        self.assertEqual((page.picture(), page.strokes()), (PILE, 2 * len(script)))
        page.lead(HEAP)
        self.assertEqual((page.picture(), page.strokes()), (HEAP, 3 * len(script)))

    def test_what_a_runner_comes_to_is_what_a_page_is_led_to(self):
        runner = SceneRunner(ROW, TWO, (0,))
        runner.go(5000)
        page = Page(TWO, PILE, None)
        page.lead(runner.places())
        told = page.picture()
        runner.back()
        page.undo()
        self.assertEqual(told, SIDE)
        self.assertEqual(read_picture(picture_text(TWO, told)), (TWO, SIDE))

    def test_numbers_that_were_returned_may_be_passed_on(self):
        far = 10 ** 20 - 1
        goals = tuple(x for (x, _), _ in places_at(TWO, ((0, 0), (far, 5)), ("level", (far, 0)), (far - 2, far)))
        picture = tuple((goal * 10 ** 12, goal) for goal in goals)
        page = Page(TWO, SIDE, None)
        page.lead(picture)
        page.nudge(0, picture[1][0], -picture[1][0])
        self.assertTrue(oracles.right_picture(TWO.sizes, page.picture()))
        self.assertEqual(len(picture_text(TWO, page.picture()).splitlines()), 2)


if __name__ == "__main__":
    unittest.main()
