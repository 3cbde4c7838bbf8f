"""Rules: 3.3."""

import unittest
from fractions import Fraction
from itertools import permutations

import oracles
from fourstrokes.boxes import Boxes
from fourstrokes.errors import NoPicture, NoRules, NotKept
from fourstrokes.rules import fewest_kept, is_keeping, shortest_kept
from oracles import Samples
from things import spoiled, strange_things

TWO = Boxes(((2, 1), (2, 1)))
ROW = ((0, 0), (2, 0))
SWAPPED = ((2, 0), (0, 0))
NONE = ((), ())
UNITS = ((1, 1),) * 6
CALLS = (fewest_kept, shortest_kept)

# 0 is left of 1 in the one row of the one, 2 left of 3 in that of the other; these rules close the ring.
RING_ONE = ((0, 0), (2, 0), (4, 20), (-2, 10))
RING_OTHER = ((6, 20), (0, 10), (2, 0), (4, 0))
RING_RULES = (((1, 2), (3, 0)), ())


def turned_over(pairs):
    """Sizes or places, across and down exchanged."""
    return tuple((down, across) for across, down in pairs)


def kept_by_both(sizes, one, other, axis):
    """All pairs that may stand in a book of rules along the axis, so that both pictures keep it."""
    return [
        (first, second) for first, second in permutations(range(len(sizes)), 2)
        if all(picture[first][axis] + sizes[first][axis] <= picture[second][axis] for picture in (one, other))
    ]


class Keeping(unittest.TestCase):

    def test_rules_without_pairs(self):
        for picture in (ROW, SWAPPED, ((0, 0), (0, 1))):
            self.assertIs(is_keeping(TWO, NONE, picture), True)
        self.assertIs(is_keeping(TWO, NONE, ((0, 0), (1, 0))), False)

    def test_edges_that_just_touch(self):
        lefts = (((0, 1),), ())
        for place, right in (((2, 0), True), ((1, 5), False), ((2, 5), True), ((3, -5), True), ((-2, 0), False)):
            self.assertIs(is_keeping(TWO, lefts, ((0, 0), place)), right, place)
        aboves = ((), ((1, 0),))
        for place, right in (((0, -1), True), ((9, -1), True), ((9, 0), False), ((0, 1), False), ((-9, -2), True)):
            self.assertIs(is_keeping(TWO, aboves, ((0, 0), place)), right, place)

    def test_the_length_of_the_first_box_counts(self):
        boxes = Boxes(((5, 2), (3, 7)))
        for picture in (((0, 0), (5, 0)), ((0, 0), (4, 2)), ((0, 0), (-3, 0)), ((0, 0), (-2, -7)), ((9, 9), (5, 2))):
            for rules in ((((0, 1),), ()), (((1, 0),), ()), ((), ((0, 1),)), ((), ((1, 0),)), (((0, 1),), ((0, 1),))):
                right = oracles.keeps(boxes.sizes, rules, picture)
                self.assertIs(is_keeping(boxes, rules, picture), right, (rules, picture))

    def test_each_pair_counts(self):
        boxes = Boxes(UNITS[:3])
        rules = (((0, 1), (0, 2)), ((1, 2),))
        self.assertIs(is_keeping(boxes, rules, ((0, 0), (1, 0), (1, 1))), True)
        self.assertIs(is_keeping(boxes, rules, ((0, 0), (1, 1), (1, 0))), False)
        self.assertIs(is_keeping(boxes, rules, ((0, 0), (1, 0), (0, 1))), False)
        self.assertIs(is_keeping(boxes, rules, ((0, 0), (0, 2), (1, 3))), False)

    def test_pictures_of_many_kinds(self):
        samples = Samples(61)
        counts = {True: 0, False: 0}
        for _ in range(300):
            sizes = samples.sizes(samples.number(2, 5))
            thing = samples.places(sizes, 4)
            rules = (samples.book(len(sizes), samples.number(0, 1)), samples.book(len(sizes), samples.number(0, 1)))
            right = oracles.right_picture(sizes, thing) and oracles.keeps(sizes, rules, thing)
            counts[right] += 1
            self.assertIs(is_keeping(Boxes(sizes), rules, thing), right)
        self.assertGreater(min(counts.values()), 30)

    def test_rules_with_a_ring_are_kept_by_no_picture(self):
        for rules in ((((0, 1), (1, 0)), ()), ((), ((0, 1), (1, 0)))):
            for picture in (ROW, SWAPPED, ((0, 0), (9, 9)), ((9, 0), (0, 9))):
                self.assertIs(is_keeping(TWO, rules, picture), False)
        self.assertIs(is_keeping(TWO, (((0, 1),), ((1, 0),)), ((0, 1), (2, 0))), True)

    def test_any_thing_is_judged(self):
        for thing in strange_things() + spoiled(ROW):
            for rules in (NONE, (((0, 1),), ())):
                right = oracles.right_picture(TWO.sizes, thing) and oracles.keeps(TWO.sizes, rules, thing)
                self.assertIs(is_keeping(TWO, rules, thing), right)


class Few(unittest.TestCase):

    def judge(self, sizes, rules, one, other):
        """How few strokes are told, and a script of so many, is right; the number is returned."""
        boxes = Boxes(sizes)
        right = oracles.fewest(sizes, one, other, rules)
        self.assertEqual(fewest_kept(boxes, rules, one, other), right, (sizes, rules, one, other))
        self.assertIs(type(fewest_kept(boxes, rules, one, other)), int)
        script = shortest_kept(boxes, rules, one, other)
        self.assertEqual(len(script), right)
        self.assertTrue(oracles.right_script(sizes, one, script))
        pictures = oracles.trail(one, script)
        self.assertEqual(pictures[-1], other)
        for picture, stroke in zip(pictures, script):
            for top in range(5):
                self.assertTrue(oracles.keeps(sizes, rules, oracles.at(picture, stroke, Fraction(top, 4))))
        return right

    def both_ways(self, sizes, rules, one, other):
        """The same with across and down exchanged, too."""
        found = self.judge(sizes, rules, one, other)
        turned = self.judge(turned_over(sizes), rules[::-1], turned_over(one), turned_over(other))
        self.assertEqual(found, turned)
        return found

    def test_rules_without_pairs(self):
        self.assertEqual(self.both_ways(TWO.sizes, NONE, ROW, ROW), 0)
        self.assertEqual(self.both_ways(TWO.sizes, NONE, ROW, ((9, 0), (11, 0))), 1)
        self.assertEqual(self.both_ways(TWO.sizes, NONE, ROW, ((9, 1), (11, 1))), 2)
        self.assertEqual(self.both_ways(TWO.sizes, NONE, ROW, SWAPPED), 3)
        one = ((0, 0), (2, 0), (20, 20), (20, 22))
        other = ((2, 0), (0, 0), (20, 22), (20, 20))
        self.assertEqual(self.both_ways(UNITS[:4], NONE, one, other), 4)

    def test_none_one_two_and_three_strokes(self):
        for rules in ((((0, 1),), ()), NONE):
            self.assertEqual(self.both_ways(TWO.sizes, rules, ROW, ROW), 0)
            self.assertEqual(self.both_ways(TWO.sizes, rules, ROW, ((9, 0), (12, 0))), 1)
            self.assertEqual(self.both_ways(TWO.sizes, rules, ROW, ((0, 5), (2, -5))), 1)
            self.assertEqual(self.both_ways(TWO.sizes, rules, ROW, ((1, 1), (3, 1))), 2)
            self.assertEqual(self.both_ways(UNITS[:2], rules, ((0, 0), (1, 1)), ((0, 1), (1, 0))), 1)
        rules = (((0, 2), (1, 2)), ())
        one = ((0, 0), (1, 0), (2, 0))
        self.assertEqual(self.both_ways(UNITS[:3], rules, one, ((1, 0), (0, 0), (2, 0))), 3)

    def test_rules_that_close_a_ring(self):
        sizes = UNITS[:4]
        self.assertTrue(oracles.can_by(sizes, RING_ONE, RING_OTHER, ("level", "upright", "level")))
        self.assertFalse(oracles.can_by(sizes, RING_ONE, RING_OTHER, ("level", "upright", "level"), RING_RULES))
        self.both_ways(sizes, NONE, RING_ONE, RING_OTHER)
        self.both_ways(sizes, RING_RULES, RING_ONE, RING_OTHER)
        self.both_ways(sizes, (RING_RULES[0][:1], ()), RING_ONE, RING_OTHER)

    def test_a_ring_for_one_way_and_a_twist_for_the_other(self):
        one = RING_ONE + ((50, 50), (50, 52))
        other = RING_OTHER + ((50, 52), (50, 50))
        self.assertEqual(self.both_ways(UNITS, NONE, one, other), 3)
        self.assertEqual(self.both_ways(UNITS, RING_RULES, one, other), 4)
        self.assertEqual(self.both_ways(UNITS, (RING_RULES[0][:1], ()), one, other), 3)
        self.assertEqual(self.both_ways(UNITS, (RING_RULES[0][1:], ()), one, other), 3)
        self.assertEqual(self.both_ways(UNITS, (((1, 2), (1, 4), (3, 0), (3, 4)), ()), one, other), 4)

    def test_pictures_of_many_kinds(self):
        samples = Samples(62)
        counts = {number: 0 for number in range(5)}
        for turn in range(500):
            sizes = samples.sizes(samples.number(2, 5))
            one = samples.picture(sizes, samples.number(2, 6))
            other = samples.picture(sizes, samples.number(2, 6))
            if turn % 3 == 0:
                other = oracles.trail(one, samples.script(sizes, one, samples.number(0, 2)))[-1]
            if turn % 3 == 1:
                sizes, one, other = samples.shuffled()
            rules = tuple(
                tuple(pair for pair in kept_by_both(sizes, one, other, axis) if samples.number(0, 2))
                for axis in (0, 1))
            counts[self.judge(sizes, rules, one, other)] += 1
        self.assertGreater(min(counts.values()), 20, counts)

    def test_rules_of_many_kinds_about_one_ring(self):
        samples = Samples(63)
        counts = {3: 0, 4: 0}
        for _ in range(150):
            order = samples.source.sample(range(6), 6)
            one = tuple((RING_ONE + ((50, 50), (50, 52)))[box] for box in order)
            other = tuple((RING_OTHER + ((50, 52), (50, 50)))[box] for box in order)
            rules = tuple(
                tuple(pair for pair in kept_by_both(UNITS, one, other, axis) if samples.number(0, 3))
                for axis in (0, 1))
            counts[self.both_ways(UNITS, rules, one, other)] += 1
        self.assertGreater(min(counts.values()), 20, counts)

    def test_40_boxes(self):
        sizes = ((3, 2),) * 40
        grid = tuple((3 * (box // 8), 2 * (box % 8)) for box in range(40))
        turned = tuple((3 * (box // 8), 2 * (7 - box % 8)) for box in range(40))
        rules = (tuple((box, box + 8) for box in range(32)), ())
        self.assertEqual(self.both_ways(sizes, rules, grid, turned), 3)
        self.assertEqual(self.both_ways(sizes, NONE, grid, grid[::-1]), 4)
        wide = tuple((5 * x + 1, 3 * y - 8) for x, y in grid)
        rules = (rules[0], tuple((box, box + 1) for box in range(39) if box % 8 != 7))
        self.assertEqual(self.both_ways(sizes, rules, grid, wide), 2)
        self.assertEqual(self.both_ways(sizes, rules, grid, tuple((5 * x + 1, y) for x, y in grid)), 1)

    def test_numbers_of_20_digits(self):
        far = 10 ** 20 - 1
        one = ((-far, far), (far, far))
        self.assertEqual(self.both_ways(TWO.sizes, (((0, 1),), ()), one, ((far - 2, -far), (far, -far))), 2)
        with self.assertRaises(NotKept):
            fewest_kept(TWO, (((0, 1),), ()), one, ((far - 1, -far), (far, far)))


class Wrong(unittest.TestCase):

    def test_what_is_not_kept(self):
        for rules, one, other in (
            ((((0, 1),), ()), ROW, SWAPPED), ((((0, 1),), ()), SWAPPED, ROW), ((((0, 1),), ()), SWAPPED, SWAPPED),
            (((), ((0, 1),)), ROW, ((0, 0), (0, 1))), (((), ((0, 1),)), ((0, 0), (0, 1)), ROW),
            ((((0, 1),), ((0, 1),)), ROW, ((0, 0), (2, 1))), ((((0, 1), (1, 0)), ()), ROW, ROW),
            ((((0, 1),), ()), ROW, ((0, 0), (1, 1))), (((), ((0, 1), (1, 0))), ROW, SWAPPED),
        ):
            for call in CALLS:
                with self.assertRaises(NotKept):
                    call(TWO, rules, one, other)

    def judge_rules(self, thing):
        right = type(thing) is tuple and len(thing) == 2 and all(
            oracles.book_fault(2, book) is None for book in thing)
        if right:
            for picture in (ROW, SWAPPED, ((0, 0), (0, 1))):
                self.assertIs(is_keeping(TWO, thing, picture), oracles.keeps(TWO.sizes, thing, picture))
            return
        for picture in (ROW, None, ((0, 0), (1, 0))):
            with self.assertRaises(NoRules):
                is_keeping(TWO, thing, picture)
            for call in CALLS:
                for one, other in ((picture, ROW), (ROW, picture)):
                    with self.assertRaises(NoRules):
                        call(TWO, thing, one, other)

    def test_rules_of_each_wrong_kind(self):
        for thing in (
            None, (), ((),), ((), (), ()), [(), ()], ([], ()), ((), []), (((0, 1),),), ((0, 1), ()), ((), (0, 1)),
            (((0, 2),), ()), ((), ((2, 0),)), (((0, -1),), ()), (((0, 0),), ()), (((1, 0), (0, 1)), ()),
            (((0, 1), (0, 1)), ()), (((0, True),), ()), (((False, 1),), ()), ((), ([0, 1],)), ((), ((0, 1, 2),)),
            ((), ((0,),)), ((), None), (None, ()), ({}, {}), ("", ""), "", ((), "01"), {0: (), 1: ()}, 0, TWO,
            (((0, 1),), ((1, 0), (0, 1))),
        ):
            self.judge_rules(thing)

    def test_things_beyond_the_boxes(self):
        for many in (1, 2, 3, 40):
            boxes = Boxes(((1, 1),) * many)
            picture = tuple((number, number) for number in range(many))
            for book in (((0, many),), ((many, 0),)):
                for rules in ((book, ()), ((), book)):
                    with self.assertRaises(NoRules):
                        is_keeping(boxes, rules, picture)
                    with self.assertRaises(NoRules):
                        fewest_kept(boxes, rules, picture, picture)
                    with self.assertRaises(NoRules):
                        shortest_kept(boxes, rules, picture, picture)
            if many > 1:
                self.assertIs(is_keeping(boxes, (((0, many - 1),), ((0, many - 1),)), picture), True)

    def test_strange_rules(self):
        for thing in strange_things():
            self.judge_rules(thing)
            self.judge_rules(((), thing))
            self.judge_rules((thing, ()))

    def test_spoiled_rules(self):
        for thing in spoiled((((0, 1),), ((1, 0),))):
            self.judge_rules(thing)

    def test_what_is_no_picture(self):
        for thing in strange_things() + spoiled(ROW) + [((0, 0), (1, 0))]:
            if oracles.right_picture(TWO.sizes, thing):
                continue
            for rules in (NONE, (((0, 1),), ())):
                for one, other in ((thing, ROW), (ROW, thing), (thing, thing)):
                    for call in CALLS:
                        with self.assertRaises(NoPicture):
                            call(TWO, rules, one, other)

    def test_no_picture_comes_ahead_of_not_kept(self):
        rules = (((0, 1),), ())
        for call in CALLS:
            with self.assertRaises(NoPicture):
                call(TWO, rules, SWAPPED, None)
            with self.assertRaises(NoPicture):
                call(TWO, rules, None, SWAPPED)
            with self.assertRaises(NoRules):
                call(TWO, None, SWAPPED, None)


if __name__ == "__main__":
    unittest.main()
