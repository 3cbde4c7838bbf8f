"""How few strokes: 3.1 and 3.2."""

import unittest
from itertools import permutations, product

import oracles
from fourstrokes.boards import fewest, is_twist, script_by, shortest, twist
from fourstrokes.boxes import Boxes
from fourstrokes.errors import NoPicture, NoWay, NoWays
from oracles import Samples
from things import spoiled, strange_things

TWO = Boxes(((2, 1), (2, 1)))
ROW = ((0, 0), (2, 0))
SWAPPED = ((2, 0), (0, 0))
SIDES = ("level", "upright")
ALL_WAYS = [()] + [oracles.by_turns(way, many) for many in range(1, 9) for way in SIDES]
UNITS = ((1, 1),) * 4

# Three boxes of which each is left of the next one in one of the pictures, the first two in both.
TALL = ((1, 2), (1, 2), (1, 1))
TALL_ONE = ((0, -1), (2, 0), (4, 1))
TALL_OTHER = ((2, 0), (4, -1), (0, 1))


def turned_over(pairs):
    """Sizes or places, across and down exchanged."""
    return tuple((down, across) for across, down in pairs)


def right_twist(sizes, one, other, way, thing):
    """Whether a thing is a twist, by the words of the document."""
    right = oracles.left_of if way == "level" else oracles.above
    books = (right(sizes, one), right(sizes, other))
    if type(thing) is not tuple or not all(oracles.integers(item, 2) for item in thing):
        return False
    if not oracles.right_ring(len(sizes), books[0] + books[1], tuple(box for box, _ in thing)):
        return False
    for number, (box, which) in enumerate(thing):
        following = thing[(number + 1) % len(thing)][0]
        if which not in (0, 1) or (box, following) not in books[which]:
            return False
    return True


class Judging(unittest.TestCase):

    def judge_script(self, sizes, one, other, script):
        self.assertTrue(oracles.right_script(sizes, one, script), (sizes, one, other, script))
        self.assertEqual(oracles.trail(one, script)[-1], other)

    def judge_few(self, sizes, one, other):
        """How few strokes are told, and a script of so many, is right; the number is returned."""
        boxes = Boxes(sizes)
        right = oracles.fewest(sizes, one, other)
        self.assertEqual(fewest(boxes, one, other), right, (sizes, one, other))
        self.assertIs(type(fewest(boxes, one, other)), int)
        script = shortest(boxes, one, other)
        self.assertEqual(len(script), right)
        self.judge_script(sizes, one, other, script)
        return right

    def judge_ways(self, sizes, one, other):
        """A script by each ways is there exactly if it can be."""
        boxes = Boxes(sizes)
        for ways in ALL_WAYS:
            script = script_by(boxes, one, other, ways)
            if not oracles.can_by(sizes, one, other, ways):
                self.assertIsNone(script, (sizes, one, other, ways))
            else:
                self.assertEqual(tuple(way for way, _ in script), ways)
                self.judge_script(sizes, one, other, script)

    def judge_twists(self, sizes, one, other):
        """There is either a twist or a script of three strokes, for both ways."""
        boxes = Boxes(sizes)
        for way in SIDES:
            found = twist(boxes, one, other, way)
            script = script_by(boxes, one, other, oracles.by_turns(way, 3))
            self.assertIs(found is None, script is not None, (sizes, one, other, way))
            self.assertIs(found is None, oracles.can_by(sizes, one, other, oracles.by_turns(way, 3)))
            if found is not None:
                self.assertTrue(right_twist(sizes, one, other, way, found), (sizes, one, other, way, found))
                self.assertIs(is_twist(boxes, one, other, way, found), True)

    def judge(self, sizes, one, other):
        """All that is said of two pictures is right; how few strokes is returned."""
        self.judge_ways(sizes, one, other)
        self.judge_twists(sizes, one, other)
        return self.judge_few(sizes, one, other)

    def by_ways(self, sizes, one, other):
        """The least ways by which one leads to other, for the pictures and for the same turned over."""
        self.judge(sizes, one, other)
        self.judge(turned_over(sizes), turned_over(one), turned_over(other))
        found = []
        for many in range(5):
            for way in SIDES:
                if oracles.can_by(sizes, one, other, oracles.by_turns(way, many)):
                    found.append(oracles.by_turns(way, many))
            if found:
                return found


class Few(Judging):

    def test_the_example(self):
        self.assertEqual(fewest(TWO, ROW, SWAPPED), 3)

    def test_none(self):
        self.assertEqual(fewest(TWO, ROW, ((0, 0), (2, 0))), 0)
        self.assertEqual(shortest(TWO, ROW, ((0, 0), (2, 0))), ())
        self.assertEqual(self.by_ways(TWO.sizes, ROW, ROW), [(), ()])

    def test_one(self):
        self.assertEqual(self.by_ways(TWO.sizes, ROW, ((5, 0), (7, 0))), [("level",)])
        self.assertEqual(self.by_ways(TWO.sizes, ROW, ((0, 9), (2, -9))), [("upright",)])
        self.assertEqual(self.by_ways(TWO.sizes, ((0, 0), (9, 1)), ((9, 0), (0, 1))), [("level",)])
        self.assertEqual(shortest(TWO, ROW, ((5, 0), (7, 0))), (("level", (5, 7)),))
        self.assertEqual(shortest(TWO, ROW, ((0, 9), (2, -9))), (("upright", (9, -9)),))

    def test_two_of_which_either_may_be_first(self):
        self.assertEqual(
            self.by_ways(TWO.sizes, ROW, ((1, 1), (3, 1))), [("level", "upright"), ("upright", "level")])

    def test_two_of_which_one_way_is_first(self):
        one = ((0, 0), (0, 2))
        other = ((0, 2), (1, 0))
        self.assertEqual(self.by_ways(UNITS[:2], one, other), [("level", "upright")])
        self.assertEqual(self.by_ways(UNITS[:2], turned_over(one), turned_over(other)), [("upright", "level")])
        self.assertEqual(self.by_ways(UNITS[:2], other, one), [("upright", "level")])

    def test_two_whose_edges_just_touch_between(self):
        self.assertEqual(self.by_ways(TWO.sizes, ((0, 0), (4, 0)), ((2, 1), (4, 0))), [
            ("level", "upright"), ("upright", "level")])
        self.assertEqual(self.by_ways(TWO.sizes, ((0, 0), (4, 0)), ((3, 1), (4, 0))), [("upright", "level")])

    def test_three_of_which_one_way_is_first(self):
        self.assertEqual(self.by_ways(TWO.sizes, ROW, SWAPPED), [("upright", "level", "upright")])
        self.assertEqual(
            self.by_ways(TWO.sizes, ((0, 0), (1, 1)), ((1, 1), (0, 0))), [("level", "upright", "level")])

    def test_three_of_which_either_may_be_first(self):
        one = ((0, 0), (9, 0))
        other = ((9, 9), (9, 0))
        self.assertEqual(self.by_ways(UNITS[:2], one, other), [("upright", "level")])
        one = ((0, 0), (0, 5), (5, 5), (5, 0))
        found = self.by_ways(UNITS, one, ((5, 5), (5, 0), (0, 0), (0, 5)))
        self.assertEqual(found, [("level", "upright", "level", "upright"), ("upright", "level", "upright", "level")])
        found = self.by_ways(UNITS, one, ((0, 5), (5, 6), (5, 0), (0, 0)))
        self.assertEqual(found, [("level", "upright", "level"), ("upright", "level", "upright")])

    def test_four(self):
        one = ((0, 0), (2, 0), (20, 20), (20, 22))
        other = ((2, 0), (0, 0), (20, 22), (20, 20))
        both = [("level", "upright", "level", "upright"), ("upright", "level", "upright", "level")]
        self.assertEqual(self.by_ways(UNITS, one, other), both)
        self.assertEqual(self.by_ways(UNITS[:3], ((0, 0), (2, 0), (0, 2)), ((2, 0), (0, 0), (2, -2))), both)

    def test_all_pictures_on_a_small_board(self):
        sizes = UNITS[:3]
        cells = list(product(range(3), repeat=2))
        goals = list(product(range(3), repeat=3))
        every = list(permutations(cells, 3))
        following = {
            picture: [
                oracles.moved(picture, (way, goal)) for way in SIDES for goal in goals
                if oracles.free_by_fact(sizes, picture, (way, goal))
            ]
            for picture in every
        }
        for begin in (every[0], every[77], every[250]):
            steps = {begin: 0}
            coming = [begin]
            for picture in coming:
                for after in following[picture]:
                    if after not in steps:
                        steps[after] = steps[picture] + 1
                        coming.append(after)
            for picture in every:
                self.assertEqual(fewest(Boxes(sizes), begin, picture), steps[picture], (begin, picture))

    def test_pictures_of_many_kinds(self):
        samples = Samples(51)
        counts = {number: 0 for number in range(5)}
        for turn in range(250):
            sizes = samples.sizes(samples.number(1, 6))
            one = samples.picture(sizes, samples.number(2, 8))
            other = samples.picture(sizes, samples.number(2, 8))
            if turn % 3 == 0:
                other = oracles.trail(one, samples.script(sizes, one, samples.number(0, 2)))[-1]
            if turn % 3 == 1:
                sizes, one, other = samples.shuffled()
            counts[self.judge(sizes, one, other)] += 1
        self.assertGreater(min(counts.values()), 15, counts)

    def test_40_boxes(self):
        sizes = ((3, 2),) * 40
        row = tuple((3 * box, 0) for box in range(40))
        column = tuple((0, 2 * box) for box in range(40))
        grid = tuple((3 * (box // 8), 2 * (box % 8)) for box in range(40))
        for one, other, right in (
            (row, row, 0), (row, tuple((x + 1, y) for x, y in row), 1), (row, row[::-1], 3), (column, column[::-1], 3),
            (grid, grid[::-1], 4), (grid, row, None), (row, column, 2), (grid, tuple((x, -y) for x, y in grid), 3),
            (grid, tuple((-x, y) for x, y in grid), 3), (grid, tuple((5 * x + 1, 7 * y - 8) for x, y in grid), 2),
        ):
            found = self.judge_few(sizes, one, other)
            if right is not None:
                self.assertEqual(found, right)
            self.judge_ways(sizes, one, other)
            self.judge_twists(sizes, one, other)

    def test_40_boxes_of_many_sizes(self):
        samples = Samples(52)
        for longest, reach in ((3, 20), (9, 40), (1000, 9000)):
            sizes = samples.sizes(40, longest)
            self.judge(sizes, samples.picture(sizes, reach), samples.picture(sizes, reach))

    def test_boxes_of_greatest_size_and_places_of_20_digits(self):
        far = 10 ** 20 - 1
        sizes = ((1000, 1000), (1000, 1000))
        self.assertEqual(self.judge(sizes, ((far, far), (-far, -far)), ((-far, -far), (far, far))), 2)
        self.assertEqual(self.judge(sizes, ((far, far), (-far, far)), ((-far, far), (far, far))), 3)
        self.assertEqual(self.judge(sizes, ((far, far), (far - 1000, far)), ((far - 1000, far), (far, far))), 3)

    def test_what_is_no_picture(self):
        for thing in strange_things() + spoiled(ROW) + [((0, 0), (1, 0))]:
            if oracles.right_picture(TWO.sizes, thing):
                continue
            for call in (fewest, shortest):
                for one, other in ((thing, ROW), (ROW, thing), (thing, thing)):
                    with self.assertRaises(NoPicture):
                        call(TWO, one, other)


class Ways(Judging):

    def test_no_ways(self):
        self.assertEqual(script_by(TWO, ROW, ROW, ()), ())
        self.assertIsNone(script_by(TWO, ROW, SWAPPED, ()))
        self.assertIsNone(script_by(TWO, ROW, ((0, 0), (3, 0)), ()))

    def test_ways_that_change_nothing(self):
        for ways in ALL_WAYS:
            script = script_by(TWO, ROW, ROW, ways)
            self.assertEqual(tuple(way for way, _ in script), ways)
            self.judge_script(TWO.sizes, ROW, ROW, script)

    def test_two_swapped_boxes(self):
        found = [script_by(TWO, ROW, SWAPPED, ways) is not None for ways in ALL_WAYS]
        self.assertEqual(found, [False] * 6 + [True] * 11)
        self.judge_ways(TWO.sizes, ROW, SWAPPED)

    def test_what_are_no_ways(self):
        wrong = [
            ("level", "level"), ("upright", "upright"), ("level", "upright", "upright"),
            ("upright", "level", "upright", "level", "level"), ("level", "upright") * 4 + ("level",),
            ("upright", "level") * 5, ("Level",), ("",), ("level", "up"), ("level", None), (b"level",), (0,), (True,),
            ["level"], [], "level", "", None, {"level": 0}, {}, (("level",),), (["level"],), ("levelupright",),
            ("level ",), 0, 1, ("level", "upright", "leve"), ("le",),
        ]
        for thing in wrong + strange_things() + spoiled(("level", "upright", "level")):
            right = type(thing) is tuple and thing in ALL_WAYS
            if right:
                script_by(TWO, ROW, SWAPPED, thing)
                continue
            for one, other in ((ROW, SWAPPED), (ROW, ROW)):
                with self.assertRaises(NoWays):
                    script_by(TWO, one, other, thing)

    def test_no_picture_comes_first(self):
        for thing in strange_things() + spoiled(ROW) + [((0, 0), (1, 0))]:
            if oracles.right_picture(TWO.sizes, thing):
                continue
            for one, other in ((thing, ROW), (ROW, thing)):
                for ways in ((), None):
                    with self.assertRaises(NoPicture):
                        script_by(TWO, one, other, ways)


class Twists(Judging):

    def test_the_examples(self):
        self.assertEqual(twist(TWO, ROW, SWAPPED, "level"), ((0, 0), (1, 1)))
        self.assertIsNone(twist(TWO, ROW, SWAPPED, "upright"))

    def test_the_other_way(self):
        one = ((0, 0), (1, 1))
        other = ((1, 1), (0, 0))
        self.assertEqual(twist(TWO, one, other, "upright"), ((0, 0), (1, 1)))
        self.assertEqual(twist(TWO, other, one, "upright"), ((0, 1), (1, 0)))
        self.assertIsNone(twist(TWO, one, other, "level"))
        self.assertIs(is_twist(TWO, one, other, "upright", ((0, 0), (1, 1))), True)
        self.assertIs(is_twist(TWO, one, other, "level", ((0, 0), (1, 1))), False)

    def test_a_pair_that_stands_in_both_books(self):
        for sizes, one, other, way in (
            (TALL, TALL_ONE, TALL_OTHER, "level"),
            (turned_over(TALL), turned_over(TALL_ONE), turned_over(TALL_OTHER), "upright"),
        ):
            boxes = Boxes(sizes)
            self.judge(sizes, one, other)
            self.assertIn(twist(boxes, one, other, way), (((0, 0), (1, 0), (2, 1)), ((0, 1), (1, 0), (2, 1))))
            for whiches in product((0, 1), repeat=3):
                thing = tuple(enumerate(whiches))
                self.assertIs(is_twist(boxes, one, other, way, thing), whiches[1:] == (0, 1))
            self.assertIs(is_twist(boxes, one, other, SIDES[way == "level"], tuple(enumerate((0, 0, 1)))), False)

    def test_is_twist_of_wrong_rings(self):
        boxes = Boxes(TALL)
        for thing in (
            (), ((0, 0),), ((0, 0), (1, 0)), ((1, 0), (2, 1), (0, 0)), ((2, 1), (0, 0), (1, 0)), ((0, 0), (2, 1), (1, 0)),
            ((0, 0), (2, 1)), ((0, 0), (1, 0), (2, 2)), ((0, 0), (1, 0), (2, -1)), ((0, 0), (1, 0), (2, True)),
            ((0, False), (1, 0), (2, 1)), ((False, 0), (1, 0), (2, 1)), ((0, 0), (True, 0), (2, 1)),
            [(0, 0), (1, 0), (2, 1)], ([0, 0], (1, 0), (2, 1)), ((0, 0), (1, 0), (2, 1, 0)), ((0, 0), (1, 0), (2,)),
            ((0, 0), (1, 0), (3, 1)), ((0, 0), (1, 0), (-1, 1)), ((0, 0), (1, 0), (2, None)), (0, 1, 2),
            ((0, 0), (1, 0), (2, 1), (0, 0)), ((0, 0), (1, 0), (2, 1)) * 2, ((0, 1, 2), (0, 0, 1)), None,
        ):
            self.assertIs(is_twist(boxes, TALL_ONE, TALL_OTHER, "level", thing), False, thing)

    def test_is_twist_of_all_small_things(self):
        marks = list(product(range(-1, 4), range(-1, 3)))
        boxes = Boxes(TALL)
        for size in (1, 2):
            for thing in product(marks, repeat=size):
                self.assertIs(is_twist(TWO, ROW, SWAPPED, "level", thing), thing == ((0, 0), (1, 1)), thing)
        for thing in product(product(range(3), range(2)), repeat=3):
            right = right_twist(TALL, TALL_ONE, TALL_OTHER, "level", thing)
            self.assertIs(is_twist(boxes, TALL_ONE, TALL_OTHER, "level", thing), right, thing)

    def test_is_twist_of_many_pictures(self):
        samples = Samples(53)
        right = 0
        for _ in range(40):
            sizes, one, other = samples.shuffled()
            way = SIDES[samples.number(0, 1)]
            book = oracles.left_of if way == "level" else oracles.above
            both = book(sizes, one) + book(sizes, other)
            for size in (2, 3, 4):
                for things in permutations(range(len(sizes)), size):
                    marks = [tuple(samples.number(0, 1) for _ in things)]
                    if oracles.right_ring(len(sizes), both, things):
                        marks = product((0, 1), repeat=size)
                    for whiches in marks:
                        thing = tuple(zip(things, whiches))
                        expected = right_twist(sizes, one, other, way, thing)
                        right += expected
                        self.assertIs(is_twist(Boxes(sizes), one, other, way, thing), expected)
        self.assertGreater(right, 50)

    def test_is_twist_judges_any_thing(self):
        for thing in strange_things() + spoiled(((0, 0), (1, 1))):
            right = right_twist(TWO.sizes, ROW, SWAPPED, "level", thing)
            self.assertIs(is_twist(TWO, ROW, SWAPPED, "level", thing), right)

    def test_what_is_no_way(self):
        for thing in strange_things() + ["Level", "up", "levels", "leve", "", b"level", ("level",), ["upright"]]:
            if type(thing) is str and thing in SIDES:
                continue
            with self.assertRaises(NoWay):
                twist(TWO, ROW, SWAPPED, thing)
            with self.assertRaises(NoWay):
                is_twist(TWO, ROW, SWAPPED, thing, ((0, 0), (1, 1)))

    def test_no_picture_comes_first(self):
        for thing in strange_things() + spoiled(ROW) + [((0, 0), (1, 0))]:
            if oracles.right_picture(TWO.sizes, thing):
                continue
            for one, other in ((thing, ROW), (ROW, thing)):
                for way in ("level", None):
                    with self.assertRaises(NoPicture):
                        twist(TWO, one, other, way)
                    with self.assertRaises(NoPicture):
                        is_twist(TWO, one, other, way, ())


if __name__ == "__main__":
    unittest.main()
