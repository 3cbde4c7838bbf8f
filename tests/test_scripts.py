"""Scripts: 2.2."""

import unittest

import oracles
from fourstrokes.boxes import Boxes
from fourstrokes.errors import NoPicture, NoScript, NotFree
from fourstrokes.scripts import is_script, joined, led, pictures, taken_back
from oracles import Samples
from things import spoiled, strange_things

TWO = Boxes(((2, 1), (2, 1)))
APART = ((0, 0), (4, 0))
CALLS = {"led": led, "pictures": pictures, "taken_back": taken_back, "joined": joined}

# Strokes from APART and from all its like.
STAY = ("level", (0, 4))
SHIFT = ("level", (1, 5))
FALL = ("upright", (3, 0))
RISE = ("upright", (0, 0))
CROSS = ("level", (4, 0))


def joined_step(picture, script):
    """The script with one stroke left out, the script itself if none is to be."""
    ahead = oracles.trail(picture, script)
    for number in range(len(script)):
        if ahead[number] == ahead[number + 1]:
            return script[:number] + script[number + 1:]
    for number in range(len(script) - 1):
        if script[number][0] == script[number + 1][0]:
            return script[:number] + script[number + 1:]
    return script


def joined_wholly(picture, script):
    """The script in which nothing is left to leave out."""
    shorter = joined_step(picture, script)
    while shorter != script:
        script, shorter = shorter, joined_step(picture, shorter)
    return script


class RightScripts(unittest.TestCase):

    def judge(self, sizes, picture, script):
        """All that is said of a script of free strokes is right."""
        boxes = Boxes(sizes)
        ahead = oracles.trail(picture, script)
        self.assertIs(is_script(boxes, picture, script), True)
        self.assertEqual(led(boxes, picture, script), ahead[-1])
        self.assertEqual(pictures(boxes, picture, script), ahead)
        back = taken_back(boxes, picture, script)
        self.assertIs(type(back), tuple)
        self.assertTrue(oracles.right_script(sizes, ahead[-1], back))
        self.assertEqual(oracles.trail(ahead[-1], back), ahead[::-1])
        self.assertEqual([way for way, _ in back], [way for way, _ in script][::-1])
        found = joined(boxes, picture, script)
        self.assertEqual(found, joined_wholly(picture, script))
        self.assertTrue(oracles.right_script(sizes, picture, found))
        self.assertEqual(oracles.trail(picture, found)[-1], ahead[-1])
        self.assertEqual(joined(boxes, picture, found), found)

    def test_the_empty_script(self):
        self.judge(TWO.sizes, APART, ())
        self.assertEqual(led(TWO, APART, ()), APART)
        self.assertEqual(pictures(TWO, APART, ()), [APART])
        self.assertEqual(taken_back(TWO, APART, ()), ())
        self.assertEqual(joined(TWO, APART, ()), ())

    def test_one_stroke(self):
        for stroke in (STAY, SHIFT, FALL, RISE):
            self.judge(TWO.sizes, APART, (stroke,))
        self.assertEqual(led(TWO, APART, (SHIFT,)), ((1, 0), (5, 0)))
        self.assertEqual(pictures(TWO, APART, (SHIFT,)), [APART, ((1, 0), (5, 0))])
        self.assertEqual(taken_back(TWO, APART, (SHIFT,)), (("level", (0, 4)),))
        self.assertEqual(joined(TWO, APART, (SHIFT,)), (SHIFT,))

    def test_several_strokes(self):
        script = (SHIFT, FALL, CROSS, RISE)
        self.judge(TWO.sizes, APART, script)
        self.assertEqual(led(TWO, APART, script), ((4, 0), (0, 0)))
        self.assertEqual(joined(TWO, APART, script), script)
        self.assertEqual(taken_back(TWO, APART, script), (("upright", (3, 0)), SHIFT, ("upright", (0, 0)), STAY))

    def test_strokes_that_change_nothing(self):
        self.judge(TWO.sizes, APART, (STAY, RISE, STAY))
        self.assertEqual(joined(TWO, APART, (STAY,)), ())
        self.assertEqual(joined(TWO, APART, (STAY, RISE, STAY, STAY)), ())
        self.judge(TWO.sizes, APART, (SHIFT, RISE, SHIFT))
        self.assertEqual(joined(TWO, APART, (SHIFT, RISE, SHIFT)), (SHIFT,))
        self.assertEqual(joined(TWO, APART, (SHIFT, RISE, ("level", (0, 7)))), (("level", (0, 7)),))

    def test_neighbours_of_one_way(self):
        script = (SHIFT, ("level", (-5, 9)), ("level", (2, 4)), FALL, ("upright", (9, 9)))
        self.judge(TWO.sizes, APART, script)
        self.assertEqual(joined(TWO, APART, script), (("level", (2, 4)), ("upright", (9, 9))))

    def test_strokes_there_and_back(self):
        self.assertEqual(joined(TWO, APART, (SHIFT, STAY)), ())
        self.assertEqual(joined(TWO, APART, (SHIFT, FALL, RISE, STAY)), ())
        self.assertEqual(joined(TWO, APART, (SHIFT, FALL, SHIFT, RISE, STAY)), ())
        script = (SHIFT, FALL, ("level", (2, 6)), ("upright", (7, 7)), FALL, SHIFT, RISE, STAY, FALL)
        self.judge(TWO.sizes, APART, script)
        self.assertEqual(joined(TWO, APART, script), (FALL,))
        self.assertEqual(joined(TWO, APART, (SHIFT, FALL, RISE, ("level", (3, 8)))), (("level", (3, 8)),))

    def test_what_is_kept_may_be_left_out_later(self):
        script = (FALL, SHIFT, STAY, RISE)
        self.judge(TWO.sizes, APART, script)
        self.assertEqual(joined(TWO, APART, script), ())
        script = (FALL, SHIFT, ("upright", (3, 0)), STAY, ("upright", (8, 0)))
        self.assertEqual(joined(TWO, APART, script), (("upright", (8, 0)),))

    def test_scripts_of_many_kinds(self):
        samples = Samples(41)
        for _ in range(150):
            sizes = samples.sizes(samples.number(1, 5))
            picture = samples.picture(sizes)
            script = samples.script(sizes, picture, samples.number(0, 7))
            self.judge(sizes, picture, script)
            back = taken_back(Boxes(sizes), picture, script)
            self.judge(sizes, picture, script + back)
            self.assertEqual(joined(Boxes(sizes), picture, script + back), ())

    def test_few_goals_often(self):
        samples = Samples(42)
        goals = ((0, 4), (1, 5), (0, 5))
        for _ in range(200):
            script = tuple(
                (("level", "upright")[samples.number(0, 1)], goals[samples.number(0, 2)])
                for _ in range(samples.number(0, 12)))
            self.judge(TWO.sizes, ((0, 0), (4, 4)), script)

    def test_200_strokes(self):
        self.judge(TWO.sizes, APART, (SHIFT, FALL, STAY, RISE) * 50)
        self.judge(TWO.sizes, APART, (STAY,) * 200)
        self.assertEqual(joined(TWO, APART, (SHIFT, FALL) * 100), (SHIFT, FALL))
        self.assertEqual(len(pictures(TWO, APART, (SHIFT, FALL, STAY, RISE) * 50)), 201)

    def test_40_boxes(self):
        samples = Samples(43)
        sizes = samples.sizes(40)
        picture = samples.picture(sizes, 40)
        lot = tuple(number * 10 for number in range(40))
        book = oracles.left_of(sizes, picture)
        order = []
        while len(order) < 40:
            order.append(min(
                box for box in range(40)
                if box not in order and all(one in order for one, other in book if other == box)))
        spread = tuple(lot[order.index(box)] for box in range(40))
        self.judge(sizes, picture, (("level", spread), ("upright", lot), ("level", lot[::-1]), ("upright", lot[::-1])))

    def test_numbers_of_20_digits(self):
        far = 10 ** 20 - 1
        self.judge(TWO.sizes, ((-far, 0), (far, 0)), (("level", (0, far)), ("upright", (far, -far)), ("level", (far, -far))))

    def test_a_new_list_each_time(self):
        first = pictures(TWO, APART, (SHIFT,))
        second = pictures(TWO, APART, (SHIFT,))
        self.assertIs(type(first), list)
        self.assertIsNot(first, second)
        first.append("more")
        self.assertEqual(second, [APART, ((1, 0), (5, 0))])
        self.assertEqual(pictures(TWO, APART, (SHIFT,)), second)


class Wrong(unittest.TestCase):

    def judge(self, sizes, picture, script):
        """What is wrong with a script, if anything, is told by each function."""
        boxes = Boxes(sizes)
        wrong = oracles.first_wrong(sizes, picture, script)
        self.assertIs(is_script(boxes, picture, script), wrong is None)
        for name, call in CALLS.items():
            with self.subTest(name):
                if wrong is None:
                    call(boxes, picture, script)
                elif wrong == "script":
                    with self.assertRaises(NoScript):
                        call(boxes, picture, script)
                else:
                    with self.assertRaises(NotFree) as caught:
                        call(boxes, picture, script)
                    self.assertEqual(caught.exception.number, wrong)

    def test_the_first_stroke_that_is_not_free(self):
        for script, number in (
            ((CROSS,), 0), ((CROSS, CROSS), 0), ((SHIFT, CROSS, CROSS), 1), ((SHIFT, FALL, RISE, CROSS), 3),
            ((SHIFT, FALL, CROSS, ("upright", (5, 5)), STAY), 4), ((CROSS, FALL, SHIFT), 0),
            ((SHIFT,) * 199 + (CROSS,), 199), ((SHIFT,) * 100 + (CROSS,) + (SHIFT,) * 99, 100),
            ((FALL, ("level", (4, 4)), RISE), 2), ((("level", (4, 4)), SHIFT), 0), ((("level", (1, 2)), SHIFT), 0),
        ):
            self.assertEqual(oracles.first_wrong(TWO.sizes, APART, script), number)
            self.judge(TWO.sizes, APART, script)

    def test_a_stroke_is_judged_from_where_the_ones_ahead_lead(self):
        self.judge(TWO.sizes, APART, (FALL, CROSS, RISE))
        self.judge(TWO.sizes, APART, (FALL, CROSS, RISE, STAY))
        self.judge(TWO.sizes, APART, (FALL, CROSS, RISE, CROSS))

    def test_scripts_of_strokes_free_and_not(self):
        samples = Samples(44)
        for _ in range(200):
            sizes = samples.sizes(samples.number(2, 4))
            picture = samples.picture(sizes)
            script = tuple(samples.stroke(picture, 1) for _ in range(samples.number(1, 6)))
            self.judge(sizes, picture, script)

    def test_what_is_no_script(self):
        for thing in (
            [], [SHIFT], None, SHIFT, "level", ((SHIFT,),), (SHIFT, None), (SHIFT, list(SHIFT)), (SHIFT, SHIFT[:1]),
            (SHIFT, ("level", [0, 4])), (("up", (0, 4)),), (("level", (0, True)),), (("level", (0, 4, 8)),), {0: SHIFT},
            (SHIFT,) * 201, (STAY,) * 201, (CROSS,) * 201, (SHIFT,) * 1000, (CROSS, None), (None, CROSS),
        ):
            self.assertEqual(oracles.first_wrong(TWO.sizes, APART, thing), "script")
            self.judge(TWO.sizes, APART, thing)

    def test_strange_scripts(self):
        for thing in strange_things():
            self.judge(TWO.sizes, APART, thing)
            self.judge(TWO.sizes, APART, (SHIFT, thing))

    def test_spoiled_scripts(self):
        for thing in spoiled((SHIFT, FALL)):
            self.judge(TWO.sizes, APART, thing)

    def test_what_is_no_picture_comes_first(self):
        for picture in strange_things() + spoiled(APART) + [((0, 0), (1, 0))]:
            if oracles.right_picture(TWO.sizes, picture):
                continue
            for script in ((), (CROSS,), None):
                for call in (*CALLS.values(), is_script):
                    with self.assertRaises(NoPicture):
                        call(TWO, picture, script)


if __name__ == "__main__":
    unittest.main()
