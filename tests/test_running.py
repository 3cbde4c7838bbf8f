"""Runs of scenes: 7.2, 7.3."""

import unittest
from itertools import product

import oracles
from fourstrokes.boxes import Boxes
from fourstrokes.errors import NoContents, NoNumber, NoScene, NothingDone, NotRunning
from fourstrokes.running import SceneRunner, picture_of, ran
from fourstrokes.scenes import Scene
from run_oracles import SceneSamples, looks, picture_word
from things import strange_things
from wrongs import check_due, check_kinds, raised

TWO = Boxes(((2, 1), (3, 4)))
C0 = (1, 0)
NEVER = ("same", (0, 0), (0, 1))
ALWAYS = ("same", (0, 0), (0, 0))


def n(number, cells=1):
    """The sum that is always this number."""
    return (0,) * cells + (number,)


def put(box, x, y, cells=1):
    return ("put", n(box, cells), n(x, cells), n(y, cells))


def adding(number):
    """Adds a number to cell 0."""
    return ("set", 0, (1, number))


def below(number):
    return ("less", C0, n(number))


def scene_of(*routines, cells=1):
    return Scene(cells, routines)


def counting(*more):
    """A scene that counts up to 0, for which it takes 2 * rounds + 1 steps from -rounds on, and then does more."""
    return scene_of((("while", below(0), (adding(1),)), *more))


class Judging(unittest.TestCase):

    def told(self, runner):
        return (runner.word(), runner.coming(), runner.opened(), runner.contents(), runner.places())

    def judge(self, scene, boxes, begins, most=60):
        """All that is told of a run, on and back, is as it should be; what is told at last is returned."""
        due = looks(scene, boxes.sizes, begins, most)
        runner = SceneRunner(scene, boxes, begins)
        for number, look in enumerate(due):
            self.assertEqual(self.told(runner), look)
            self.assertEqual(runner.steps(), number)
            word = "on" if look[0] == "runs" else look[0]
            self.assertEqual(ran(scene, boxes, begins, number), (word, look[3], look[4]))
            if number + 1 < len(due):
                self.assertIsNone(runner.step())
        if due[-1][0] != "runs":
            self.refuses(runner)
            self.assertEqual(ran(scene, boxes, begins, 5000), (due[-1][0], *due[-1][3:]))
        for number in range(len(due) - 1, 0, -1):
            self.assertEqual((self.told(runner), runner.steps()), (due[number], number))
            self.assertIsNone(runner.back())
        self.assertEqual(self.told(runner), due[0])
        self.assertIs(type(raised(runner.back, ())), NothingDone)
        self.assertEqual(runner.go(most), len(due) - 1)
        self.assertEqual(self.told(runner), due[-1])
        return due[-1]

    def refuses(self, runner):
        """No step is done when it is over or at a fault, and nothing is changed then."""
        ahead = (self.told(runner), runner.steps())
        self.assertIs(type(raised(runner.step, ())), NotRunning)
        self.assertEqual(runner.go(5000), 0)
        self.assertEqual((self.told(runner), runner.steps()), ahead)

    def check_fault(self, routine, begins=(0,), boxes=TWO):
        """The last statement of a routine is a fault."""
        word, coming, _, _, _ = self.judge(scene_of(routine), boxes, begins)
        self.assertEqual((word, coming), ("fault", routine[-1]))

    def check_over(self, routine, begins=(0,), boxes=TWO):
        """A routine is run to its end; what the cells hold and the places are returned."""
        word, _, _, contents, places = self.judge(scene_of(routine, cells=len(begins)), boxes, begins)
        self.assertEqual(word, "over")
        return contents, places


class Statements(Judging):

    def test_set(self):
        self.assertEqual(self.check_over((("set", 0, n(7)),)), ((7,), (None, None)))
        self.assertEqual(self.check_over((("set", 0, (-3, 5)),), (4,)), ((-7,), (None, None)))
        self.assertEqual(self.check_over((("set", 2, (2, -1, 10, 1000)),), (7, 100, -5)), ((7, 100, 864), (None, None)))
        self.assertEqual(self.check_over((("set", 1, (1, 1, 0)), ("set", 0, (1, 1, 0))), (3, 5)), ((11, 8), (None, None)))

    def test_put(self):
        self.assertEqual(self.check_over((put(1, 5, -6),)), ((0,), (None, (5, -6))))
        self.assertEqual(self.check_over((("put", C0, (2, 1), (-1, 0)),), (1,)), ((1,), (None, (3, -1))))

    def test_the_last_place_of_a_box_counts(self):
        self.assertEqual(self.check_over((put(0, 1, 2), put(1, 3, 4), put(0, 5, 6))), ((0,), ((5, 6), (3, 4))))

    def test_boxes_may_overlap_meanwhile(self):
        self.assertEqual(self.check_over((put(0, 0, 0), put(1, 0, 0), put(1, 2, 0)))[1], ((0, 0), (2, 0)))

    def test_ask(self):
        for word, found in (("width", 3), ("height", 4), ("left", -8), ("top", 9)):
            self.assertEqual(self.check_over((put(1, -8, 9), ("ask", 0, word, n(1)))), ((found,), (None, (-8, 9))))

    def test_an_ask_writes_its_cell_alone(self):
        contents, _ = self.check_over((("ask", 1, "height", n(1, 3)),), (7, 8, 9))
        self.assertEqual(contents, (7, 4, 9))

    def test_an_ask_that_writes_the_cell_that_told_it_the_box(self):
        self.assertEqual(self.check_over((("ask", 0, "width", C0),), (1,))[0], (3,))
        self.assertEqual(self.check_over((put(0, 1, 5), ("ask", 0, "left", C0), ("ask", 0, "height", C0)))[0], (4,))

    def test_if(self):
        for test, found in ((below(5), 1), (below(4), 2), (("same", C0, n(4)), 1), (("same", C0, n(5)), 2),
                            (("less", n(5), C0), 2), (("less", n(-5), C0), 1), (("less", C0, C0), 2)):
            routine = (("if", test, (("set", 0, n(1)),), (("set", 0, n(2)),)),)
            self.assertEqual(self.check_over(routine, (4,))[0], (found,), test)

    def test_while(self):
        contents, _ = self.check_over((("while", ("less", (1, 0, 0), (0, 1, 0)), (("set", 0, (1, 0, 1)),)),), (2, 7))
        self.assertEqual(contents, (7, 7))
        self.assertEqual(self.check_over((("while", below(4), (adding(3),)),))[0], (6,))
        self.assertEqual(self.check_over((("while", below(4), (adding(3),)),), (4,))[0], (4,))

    def test_call(self):
        scene = scene_of((("call", 2), ("call", 1)), (put(1, 7, 7), adding(1)), (adding(5), put(0, 1, 1)))
        self.assertEqual(self.judge(scene, TWO, (0,)), ("over", None, (), (6,), ((1, 1), (7, 7))))

    def test_all_routines_see_the_same_cells(self):
        scene = scene_of((adding(1), ("call", 1), adding(1)), (("set", 0, (10, 0)), ("call", 2)), (adding(3),))
        self.assertEqual(self.judge(scene, TWO, (1,))[3], (24,))


class Steps(Judging):

    def words(self, scene, many, begins=(0,)):
        """What comes, and which routines are open, ahead of each of so many steps."""
        runner = SceneRunner(scene, TWO, begins)
        found = []
        for _ in range(many):
            found.append((runner.coming(), runner.opened()))
            runner.step()
        self.judge(scene, TWO, begins)
        return found, runner

    def test_empty_bodies_are_left_at_once(self):
        for test in (ALWAYS, NEVER):
            found, runner = self.words(scene_of((("if", test, (), ()), adding(1))), 2)
            self.assertEqual(found, [(test, (0,)), (adding(1), (0,))])
            self.assertEqual(runner.word(), "over")
        found, runner = self.words(scene_of((("while", NEVER, ()), adding(1))), 2)
        self.assertEqual(found, [(NEVER, (0,)), (adding(1), (0,))])
        self.assertEqual((runner.word(), runner.opened(), runner.coming()), ("over", (), None))

    def test_an_empty_routine_is_left_at_once(self):
        found, runner = self.words(scene_of((("call", 1), ("call", 1)), ()), 2)
        self.assertEqual(found, [(("call", 1), (0,))] * 2)
        self.assertEqual(runner.word(), "over")

    def test_all_routines_empty(self):
        for many in range(1, 6):
            scene = scene_of(*((),) * many)
            self.assertEqual(self.judge(scene, TWO, (3,)), ("over", None, (), (3,), (None, None)))
            self.assertEqual(ran(scene, TWO, (3,), 0), ("over", (3,), (None, None)))

    def test_a_while_that_stays_true_without_a_body(self):
        scene = scene_of((("while", ALWAYS, ()), put(0, 0, 0)))
        found, _ = self.words(scene, 5)
        self.assertEqual(found, [(ALWAYS, (0,))] * 5)
        self.assertEqual(ran(scene, TWO, (4,), 5000), ("on", (4,), (None, None)))
        runner = SceneRunner(scene, TWO, (4,))
        self.assertEqual([runner.go(5000), runner.go(5000), runner.go(7), runner.steps()], [5000, 5000, 7, 10007])

    def test_a_while_whose_body_holds_empty_bodies(self):
        scene = scene_of((("while", below(2), (("if", NEVER, (adding(9),), ()), adding(1), ("while", NEVER, ()))),))
        found, runner = self.words(scene, 9)
        self.assertEqual([coming for coming, _ in found], [below(2), NEVER, adding(1), NEVER] * 2 + [below(2)])
        self.assertEqual((runner.word(), runner.contents()), ("over", (2,)))

    def test_what_stands_behind_an_if_a_while_a_call(self):
        for statement in (
            ("if", ALWAYS, (adding(2),), (adding(3),)), ("if", NEVER, (adding(3),), (adding(2),)),
            ("while", below(2), (adding(2),)), ("call", 1),
        ):
            contents = self.judge(scene_of((statement, ("set", 0, (10, 0))), (adding(2),)), TWO, (0,))[3]
            self.assertEqual(contents, (20,), statement)

    def test_many_bodies_are_left_at_once(self):
        body = (adding(1),)
        for _ in range(7):
            body = (("if", ALWAYS, body, ()),)
        scene = scene_of(body + (("call", 1),), (("call", 2),), (("if", NEVER, (), (adding(1),)),))
        found, runner = self.words(scene, 12)
        self.assertEqual([opened for _, opened in found], [(0,)] * 9 + [(0, 1), (0, 1, 2), (0, 1, 2)])
        self.assertEqual((runner.word(), runner.opened(), runner.contents()), ("over", (), (2,)))

    def test_a_call_that_stands_last_keeps_its_routine_open(self):
        found, _ = self.words(scene_of((("call", 1),), (("call", 2),), (adding(1),)), 3)
        self.assertEqual([opened for _, opened in found], [(0,), (0, 1), (0, 1, 2)])

    def test_a_call_within_a_while(self):
        found, runner = self.words(scene_of((("while", below(2), (("call", 1),)), adding(5)), (adding(1),)), 8)
        self.assertEqual([opened for _, opened in found], [(0,), (0,), (0, 1)] * 2 + [(0,), (0,)])
        self.assertEqual((runner.word(), runner.contents()), ("over", (7,)))

    def test_routine_0_called_by_itself(self):
        scene = scene_of((adding(1), ("if", below(3), (("call", 0),), ()), ("set", 0, (2, 0))))
        self.assertEqual(self.judge(scene, TWO, (0,))[3], (24,))
        self.assertEqual(SceneRunner(scene, TWO, (0,)).go(5000), 11)
        runner = SceneRunner(scene, TWO, (0,))
        runner.go(7)
        self.assertEqual((runner.opened(), runner.coming()), ((0, 0, 0), below(3)))

    def test_a_while_in_a_while(self):
        scene = scene_of((
            ("while", ("less", (1, 0, 0), n(3, 2)), (
                ("set", 1, n(0, 2)),
                ("while", ("less", (0, 1, 0), (1, 0, 0)), (("set", 1, (0, 1, 1)), ("put", n(0, 2), (1, 0, 0), (0, 1, 0)))),
                ("set", 0, (1, 0, 1)),
            )),
        ), cells=2)
        self.assertEqual(self.judge(scene, TWO, (0, 9))[3:], ((3, 2), ((2, 2), None)))


class Faults(Judging):

    def test_a_put_and_an_ask_of_a_number_that_no_box_has(self):
        for number in (-1, 2, 3, 40, -2, 1000, -1000):
            self.check_fault((adding(1), put(number, 0, 0)))
            for word in ("width", "height", "left", "top"):
                self.check_fault((put(0, 0, 0), put(1, 0, 0), ("ask", 0, word, n(number))))
        for number in (10 ** 20 - 1, -(10 ** 20) + 1):
            self.check_fault((("put", C0, n(0), n(0)),), (number,))
            self.check_fault((("ask", 0, "width", C0),), (number,))

    def test_the_greatest_number_of_40_boxes(self):
        boxes = Boxes(((1, 7),) * 39 + ((5, 5),))
        contents, places = self.check_over((put(39, 3, 4), ("ask", 0, "width", n(39))), boxes=boxes)
        self.assertEqual((contents, places), ((5,), (None,) * 39 + ((3, 4),)))
        self.check_fault((put(39, 3, 4), put(40, 3, 4)), boxes=boxes)
        self.check_fault((put(0, 3, 4), put(1, 3, 4)), boxes=Boxes(((1, 1),)))

    def test_an_ask_for_an_edge_of_a_box_that_is_not_put(self):
        for box, word in product((0, 1), ("left", "top")):
            self.check_fault((put(1 - box, 5, 5), ("ask", 0, word, n(box))))
            self.check_over((put(box, 5, 5), ("ask", 0, word, n(box))))

    def test_lengths_of_boxes_that_are_not_put(self):
        for box, (width, height) in enumerate(TWO.sizes):
            self.assertEqual(self.check_over((("ask", 0, "width", n(box)),)), ((width,), (None, None)))
            self.assertEqual(self.check_over((("ask", 0, "height", n(box)),)), ((height,), (None, None)))

    def test_a_fault_changes_nothing(self):
        scene = scene_of((put(0, 1, 2), ("set", 0, n(5)), ("put", C0, C0, C0), ("set", 0, n(6))))
        for most in (2, 3, 4, 5000):
            self.assertEqual(ran(scene, TWO, (0,), most), ("fault", (5,), ((1, 2), None)))
        self.assertEqual(ran(scene, TWO, (0,), 1), ("on", (0,), ((1, 2), None)))

    def test_a_fault_ahead_of_all_steps(self):
        for statement in (put(2, 0, 0), ("ask", 0, "left", n(0)), ("ask", 0, "width", n(-1))):
            scene = scene_of((statement,))
            for most in (0, 1, 5000):
                self.assertEqual(ran(scene, TWO, (4,), most), ("fault", (4,), (None, None)))

    def test_a_fault_within(self):
        scene = scene_of((("while", ALWAYS, (("call", 1), adding(1))),), (("if", below(3), (), (put(7, 0, 0),)),))
        self.assertEqual(self.judge(scene, TWO, (0,)), ("fault", put(7, 0, 0), (0, 1), (3,), (None, None)))

    def test_calls_20_deep_and_one_more(self):
        for most, word in ((19, "over"), (20, "fault"), (21, "fault")):
            scene = scene_of((("call", 1),), (("if", below(most - 1), (adding(1), ("call", 1)), ()), put(0, 7, 7)))
            found = self.judge(scene, TWO, (0,), 200)
            if word == "over":
                self.assertEqual(found, ("over", None, (), (18,), ((7, 7), None)))
            else:
                self.assertEqual(found, ("fault", ("call", 1), (0,) + (1,) * 19, (19,), (None, None)))

    def test_a_routine_that_calls_itself_at_once(self):
        scene = scene_of((("call", 0),))
        self.assertEqual(self.judge(scene, TWO, (0,)), ("fault", ("call", 0), (0,) * 20, (0,), (None, None)))
        self.assertEqual(ran(scene, TWO, (0,), 18)[0], "on")
        self.assertEqual(ran(scene, TWO, (0,), 19)[0], "fault")

    def test_a_call_of_an_empty_routine_where_20_are_open(self):
        scene = scene_of((adding(1), ("if", below(20), (("call", 0),), (("call", 1),))), ())
        self.assertEqual(self.judge(scene, TWO, (0,), 200), ("fault", ("call", 1), (0,) * 20, (20,), (None, None)))
        scene = scene_of((adding(1), ("if", below(19), (("call", 0),), (("call", 1),))), ())
        self.assertEqual(self.judge(scene, TWO, (0,), 200), ("over", None, (), (19,), (None, None)))

    def test_calls_one_behind_the_other_are_not_deep(self):
        scene = scene_of((("call", 1),) * 60, (adding(1), ("call", 2)), (adding(1),))
        self.assertEqual(self.judge(scene, TWO, (0,), 500)[:4], ("over", None, (), (120,)))


class Ran(Judging):

    def test_just_as_many_steps_as_it_takes_and_one_less(self):
        for rounds in (0, 1, 7, 100):
            takes = 2 * rounds + 1
            for most, word in ((takes, "over"), (takes + 1, "over"), (takes - 1, "on")):
                self.assertEqual(ran(counting(), TWO, (-rounds,), most), (word, (0,), (None, None)))

    def test_most_of_0_1_and_5000(self):
        for most, done in ((0, 0), (1, 0), (2, 1), (3, 1), (4, 2), (4999, 2499), (5000, 2500)):
            self.assertEqual(ran(counting(), TWO, (-4000,), most), ("on", (done - 4000,), (None, None)))

    def test_what_is_no_most(self):
        def right(thing):
            return oracles.integer(thing) and 0 <= thing <= 5000
        more = [5001, 5000, -1, 6000, 10 ** 19, "3", (3,)]
        check_kinds(self, ran, (counting(), TWO, (-3,), 3), 3, right, NoNumber, more)
        check_kinds(self, SceneRunner(counting(), TWO, (-3,)).go, (0,), 0, right, NoNumber, more)

    def test_begins(self):
        for cells in range(1, 6):
            begins = tuple(range(-1, cells - 1))
            self.assertEqual(ran(Scene(cells, ((),)), TWO, begins, 5)[1], begins)
            for wrong in (begins[1:], begins + (0,), list(begins), (True,) + begins[1:], begins[:-1] + (None,), (), None):
                for call, more in ((ran, (5,)), (picture_of, ()), (SceneRunner, ())):
                    self.assertIs(type(raised(call, (Scene(cells, ((),)), TWO, wrong, *more))), NoContents, wrong)

    def test_what_is_no_begins(self):
        def right(thing):
            return oracles.integers(thing, 2)
        scene = scene_of((put(0, 0, 0, 2), put(1, 5, 0, 2)), cells=2)
        for call, more in ((ran, (5,)), (picture_of, ()), (SceneRunner, ())):
            check_kinds(self, call, (scene, TWO, (3, 4), *more), 2, right, NoContents, [(0, 0, 0), [0, 0], (0, "0")])

    def test_no_contents_comes_ahead_of_no_number(self):
        check_due(self, ran, (counting(), TWO, (-3,), 5), [(2, (0, 0), NoContents), (3, 5001, NoNumber)])
        check_due(self, ran, (counting(), TWO, (-3,), 5), [(2, None, NoContents), (3, True, NoNumber)])

    def test_large_and_negative_numbers(self):
        far = 10 ** 20 - 1
        self.assertEqual(self.check_over((("put", n(0), (1000, -1000), (-1000, 1000)),), (far,))[1][0],
                         (1000 * far - 1000, 1000 - 1000 * far))
        scene = scene_of((("while", ("less", (0, 1, 0), n(300, 2)), (("set", 0, (-1000, 0, -7)), ("set", 1, (0, 1, 1)))),
                          ("put", n(1, 2), (1, 0, 0), (-1, 0, 0))), cells=2)
        worth = -far
        for _ in range(300):
            worth = -1000 * worth - 7
        self.assertEqual(ran(scene, TWO, (-far, 0), 5000), ("over", (worth, 300), (None, (worth, -worth))))

    def test_scenes_of_many_kinds(self):
        samples = SceneSamples(81)
        counts = {"over": 0, "runs": 0, "fault": 0}
        for turn in range(1200):
            cells = samples.number(1, 3)
            scene = Scene(cells, samples.routines(cells))
            begins = tuple(samples.number(-1, 3) for _ in range(cells))
            counts[self.judge(scene, Boxes(samples.sizes(3)), begins, 10 + turn % 60)[0]] += 1
        self.assertGreater(min(counts.values()), 100, counts)


class Pictures(unittest.TestCase):

    def why(self, scene, boxes=TWO, begins=(0,)):
        error = raised(picture_of, (scene, boxes, begins))
        self.assertIs(type(error), NoScene)
        return error.why

    def test_the_example(self):
        two = Boxes(((2, 1), (2, 1)))
        scene = scene_of((("while", below(2), (("put", C0, (2, 0), n(0)), adding(1))),))
        self.assertEqual(picture_of(scene, two, (0,)), ((0, 0), (2, 0)))

    def test_places_are_told(self):
        picture = picture_of(scene_of((put(1, -5, 8), ("ask", 0, "left", n(1)), ("put", n(0), C0, (3, 1)))), TWO, (4,))
        self.assertEqual(picture, ((-5, -14), (-5, 8)))
        self.assertIs(type(picture), tuple)
        self.assertEqual(picture_of(scene_of((put(0, 0, 0), put(1, 2, 0))), TWO, (4,)), ((0, 0), (2, 0)))

    def test_begins_count(self):
        scene = scene_of((("put", n(0), (1, 0), n(0)), ("put", n(1), n(0), (0, 9))))
        for begin in (0, -7, 10 ** 20 - 1):
            self.assertEqual(picture_of(scene, TWO, (begin,)), ((begin, 0), (0, 9)))

    def test_just_5000_steps_and_5001(self):
        puts = (put(0, 0, 0), put(1, 5, 0))
        runner = SceneRunner(counting(*puts, adding(0)), TWO, (-2498,))
        self.assertEqual((runner.go(5000), runner.word()), (5000, "over"))
        self.assertEqual(picture_of(counting(*puts, adding(0)), TWO, (-2498,)), ((0, 0), (5, 0)))
        for more, why in (
            ((adding(0),), "on"), ((put(7, 0, 0),), "fault"), ((adding(0), put(7, 0, 0)), "on"),
        ):
            self.assertEqual(self.why(counting(*puts, adding(0), *more), TWO, (-2498,)), why)

    def test_why_where_just_this_is_due(self):
        puts = (put(0, 0, 0), put(1, 5, 0))
        self.assertEqual(self.why(scene_of(puts + (("while", ALWAYS, ()),))), "on")
        self.assertEqual(self.why(scene_of(puts + (put(2, 0, 0),))), "fault")
        self.assertEqual(self.why(scene_of(puts[:1])), "lacks")
        self.assertEqual(self.why(scene_of(puts[1:])), "lacks")
        self.assertEqual(self.why(scene_of(())), "lacks")
        self.assertEqual(self.why(scene_of((put(0, 0, 0), put(1, 1, 0)))), "overlaps")
        self.assertEqual(self.why(scene_of((put(0, 0, 3), put(1, 1, 0)))), "overlaps")

    def test_why_where_several_would_be_due(self):
        three = Boxes(((2, 1),) * 3)
        upon = (put(0, 0, 0), put(1, 0, 0))
        self.assertEqual(self.why(scene_of(upon + (("while", ALWAYS, ()),)), three), "on")
        self.assertEqual(self.why(scene_of(upon + (put(3, 0, 0),)), three), "fault")
        self.assertEqual(self.why(scene_of(upon), three), "lacks")
        self.assertEqual(self.why(scene_of(upon + (put(2, 9, 9),)), three), "overlaps")
        self.assertEqual(self.why(scene_of((put(3, 0, 0), ("while", ALWAYS, ()))), three), "fault")

    def test_no_contents_comes_first(self):
        for routine in ((("while", ALWAYS, ()),), (put(9, 0, 0),), (), (put(0, 0, 0), put(1, 0, 0))):
            self.assertIs(type(raised(picture_of, (scene_of(routine), TWO, (0, 0)))), NoContents)

    def test_scenes_of_many_kinds(self):
        samples = SceneSamples(82)
        counts = {"picture": 0, "on": 0, "fault": 0, "lacks": 0, "overlaps": 0}
        for _ in range(1500):
            cells = samples.number(1, 2)
            routines = list(samples.routines(cells))
            sizes = samples.sizes(2)
            if samples.number(0, 2):
                routines[0] += (put(0, samples.number(-2, 2), 0, cells), put(1, samples.number(-2, 2), 0, cells))
            scene = Scene(cells, tuple(routines))
            begins = tuple(samples.number(-1, 3) for _ in range(cells))
            due = picture_word(scene, sizes, begins, lambda places: oracles.overlaps(sizes, places) == [])
            if type(due) is str:
                self.assertEqual(self.why(scene, Boxes(sizes), begins), due)
                counts[due] += 1
            else:
                self.assertEqual(picture_of(scene, Boxes(sizes), begins), due)
                counts["picture"] += 1
        self.assertGreater(min(counts.values()), 30, counts)


class Runners(Judging):

    def test_kinds_of_what_is_told(self):
        runner = SceneRunner(counting(put(0, 0, 0)), TWO, (-1,))
        while runner.word() == "runs":
            for told, kind in zip((*self.told(runner), runner.steps()), (str, tuple, tuple, tuple, tuple, int)):
                self.assertIs(type(told), kind)
            runner.step()
        self.assertEqual(self.told(runner), ("over", None, (), (0,), ((0, 0), None)))

    def test_no_step_when_over_or_at_a_fault(self):
        for routine, takes in (((), 0), ((adding(1),), 1), ((put(9, 0, 0),), 0), ((adding(1), put(9, 0, 0)), 1)):
            runner = SceneRunner(scene_of(routine), TWO, (0,))
            self.assertEqual(runner.go(takes), takes)
            self.refuses(runner)

    def test_no_way_back_ahead_of_the_beginning(self):
        runner = SceneRunner(counting(), TWO, (-2,))
        for steps in (0, 1, 5):
            runner.go(steps)
            for _ in range(steps):
                runner.back()
            ahead = self.told(runner)
            self.assertIs(type(raised(runner.back, ())), NothingDone)
            self.assertEqual((self.told(runner), runner.steps()), (ahead, 0))

    def test_back_out_of_over_and_out_of_a_fault(self):
        for last, word in ((put(1, 0, 0), "over"), (put(2, 0, 0), "fault")):
            runner = SceneRunner(scene_of((adding(1), adding(2), last)), TWO, (0,))
            done = runner.go(5000)
            self.assertEqual((done, runner.word()), (3, "over") if word == "over" else (2, "fault"))
            runner.back()
            self.assertEqual((runner.word(), runner.steps()), ("runs", done - 1))
            self.assertEqual(runner.coming(), last if word == "over" else adding(2))
            self.assertEqual(runner.go(5000), 1)
            self.assertEqual(runner.word(), word)

    def test_go(self):
        runner = SceneRunner(counting(), TWO, (-3000,))
        for most, steps in ((0, 0), (1, 1), (0, 1), (3, 4), (996, 1000), (5000, 6000), (5000, 6001), (5000, 6001), (0, 6001)):
            ahead = runner.steps()
            self.assertEqual(runner.go(most), steps - ahead)
            self.assertEqual(runner.steps(), steps)
        self.assertEqual((runner.word(), runner.contents()), ("over", (0,)))

    def test_a_refused_go_changes_nothing(self):
        runner = SceneRunner(counting(), TWO, (-3,))
        runner.go(2)
        ahead = self.told(runner)
        for thing in strange_things() + [5001]:
            if not oracles.integer(thing) or not 0 <= thing <= 5000:
                self.assertIs(type(raised(runner.go, (thing,))), NoNumber)
                self.assertEqual((self.told(runner), runner.steps()), (ahead, 2))

    def test_go_refuses_when_over_and_at_a_fault_too(self):
        for routine in ((), (put(9, 0, 0),)):
            self.assertIs(type(raised(SceneRunner(scene_of(routine), TWO, (0,)).go, (5001,))), NoNumber)

    def test_copies_go_on_apart_with_all_steps(self):
        scene = counting(put(0, 1, 1))
        due = looks(scene, TWO.sizes, (-5,), 5000)
        one = SceneRunner(scene, TWO, (-5,))
        one.go(4)
        other = one.copy()
        self.assertIs(type(other), SceneRunner)
        self.assertIsNot(other, one)
        one.go(3)
        self.assertEqual((self.told(other), other.steps()), (due[4], 4))
        other.back()
        self.assertEqual((self.told(other), other.steps(), self.told(one), one.steps()), (due[3], 3, due[7], 7))
        third = other.copy().copy()
        for number in (2, 1, 0):
            other.back()
            self.assertEqual(self.told(other), due[number])
        self.assertIs(type(raised(other.back, ())), NothingDone)
        self.assertEqual(third.go(5000), len(due) - 1 - 3)
        self.assertEqual((self.told(third), self.told(other), self.told(one)), (due[-1], due[0], due[7]))
        while one.steps():
            one.back()
        self.assertEqual((self.told(one), third.steps()), (due[0], len(due) - 1))

    def test_copies_at_the_beginning_at_a_fault_and_when_over(self):
        for routine in ((), (adding(1),), (adding(1), put(5, 0, 0))):
            for steps in (0, 1):
                one = SceneRunner(scene_of(routine), TWO, (0,))
                one.go(steps)
                other = one.copy()
                self.assertEqual((self.told(other), other.steps()), (self.told(one), one.steps()))

    def test_what_was_told_stays_as_it_was(self):
        runner = SceneRunner(counting(put(0, 1, 1), put(1, 5, 5)), TWO, (-2,))
        told = []
        while runner.word() == "runs":
            told.append((self.told(runner), repr(self.told(runner))))
            runner.step()
        while runner.steps():
            runner.back()
        for look, words in told:
            self.assertEqual(repr(look), words)

    def test_equal_to_nothing_else(self):
        one = SceneRunner(counting(), TWO, (-2,))
        for thing in strange_things():
            self.assertIs(one == thing, False)
        self.assertIs(one == one, True)

    def test_equal_calls_give_equal_answers(self):
        scene, again = counting(put(0, 1, 1), put(1, 5, 5)), Scene(1, counting(put(0, 1, 1), put(1, 5, 5)).routines)
        self.assertEqual(ran(scene, TWO, (-2,), 6), ran(again, Boxes(TWO.sizes), (-2,), 6))
        self.assertEqual(picture_of(scene, TWO, (-2,)), picture_of(again, Boxes(TWO.sizes), (-2,)))


if __name__ == "__main__":
    unittest.main()
