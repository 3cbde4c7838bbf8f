"""Strokes: 2.1."""

import unittest
from fractions import Fraction
from itertools import product

import oracles
from fourstrokes.boxes import Boxes
from fourstrokes.errors import NoMoment, NoPicture, NoStroke
from fourstrokes.strokes import first_hit, is_free, moved, places_at
from oracles import Samples
from things import spoiled, strange_things

TWO = Boxes(((2, 1), (2, 1)))
APART = ((0, 0), (4, 0))
FAR = 10 ** 20 - 1
SIDES = ("level", "upright")


def told(place):
    """A place in Fractions as places_at tells it."""
    return tuple((Fraction(part).numerator, Fraction(part).denominator) for part in place)


def turned_over(pairs):
    """Sizes or places, across and down exchanged."""
    return tuple((down, across) for across, down in pairs)


class Moved(unittest.TestCase):

    def test_both_ways(self):
        self.assertEqual(moved(TWO, APART, ("level", (7, -3))), ((7, 0), (-3, 0)))
        self.assertEqual(moved(TWO, APART, ("upright", (7, -3))), ((0, 7), (4, -3)))

    def test_also_if_not_free(self):
        self.assertEqual(moved(TWO, APART, ("level", (4, 0))), ((4, 0), (0, 0)))
        self.assertEqual(moved(TWO, APART, ("level", (4, 4))), ((4, 0), (4, 0)))

    def test_many_boxes(self):
        samples = Samples(31)
        for _ in range(100):
            sizes = samples.sizes(samples.number(1, 8))
            picture = samples.picture(sizes)
            stroke = samples.stroke(picture)
            self.assertEqual(moved(Boxes(sizes), picture, stroke), oracles.moved(picture, stroke))
            self.assertIs(type(moved(Boxes(sizes), picture, stroke)), tuple)

    def test_numbers_of_20_digits(self):
        self.assertEqual(moved(TWO, ((FAR, 1), (-FAR, 2)), ("level", (-FAR, FAR))), ((-FAR, 1), (FAR, 2)))


class PlacesAt(unittest.TestCase):

    def judge(self, sizes, picture, stroke, moment):
        found = places_at(Boxes(sizes), picture, stroke, moment)
        right = tuple(told(place) for place in oracles.at(picture, stroke, Fraction(*moment)))
        self.assertEqual(found, right)
        for place in found:
            for part in place:
                self.assertTrue(oracles.integers(part, 2))

    def test_both_ways(self):
        self.assertEqual(
            places_at(TWO, APART, ("level", (1, 10)), (1, 3)), (((1, 3), (0, 1)), ((6, 1), (0, 1))))
        self.assertEqual(
            places_at(TWO, ((0, -2), (4, 0)), ("upright", (1, 10)), (1, 2)), (((0, 1), (-1, 2)), ((4, 1), (5, 1))))

    def test_begin_and_end(self):
        for way in SIDES:
            stroke = (way, (-7, 30))
            self.assertEqual(places_at(TWO, APART, stroke, (0, 1)), (((0, 1), (0, 1)), ((4, 1), (0, 1))))
            end = oracles.moved(APART, stroke)
            self.assertEqual(places_at(TWO, APART, stroke, (1, 1)), tuple(told(place) for place in end))

    def test_all_moments_with_a_small_bottom(self):
        samples = Samples(32)
        for bottom in range(1, 13):
            for top in range(bottom + 1):
                if oracles.right_moment((top, bottom)):
                    sizes = samples.sizes(3)
                    picture = samples.picture(sizes)
                    for reach in (0, 3, 30):
                        self.judge(sizes, picture, samples.stroke(picture, reach), (top, bottom))

    def test_also_if_not_free(self):
        self.assertEqual(places_at(TWO, APART, ("level", (4, 0)), (1, 2)), (((2, 1), (0, 1)), ((2, 1), (0, 1))))

    def test_numbers_of_20_digits(self):
        for moment in ((1, FAR), (FAR - 1, FAR), (1, 3), (10 ** 19, 10 ** 19 + 1)):
            for way in SIDES:
                self.judge(TWO.sizes, ((FAR, -FAR), (-FAR, FAR)), (way, (-FAR, FAR)), moment)
                self.judge(TWO.sizes, ((FAR, -FAR), (-FAR, FAR)), (way, (FAR - 1, 1 - FAR)), moment)

    def test_what_is_no_moment(self):
        for moment in (
            (2, 4), (0, 2), (2, 2), (3, 3), (0, 10 ** 19), (-1, 2), (-1, 1), (3, 2), (2, 1), (1, 0), (0, 0), (-1, -2),
            (0, -1), (1, -1), (-1, -1), (True, 2), (1, True), (False, 1), (0, True), [1, 2], (1,), (1, 2, 3), (), 0, 1,
            None, "12", ("1", "2"), ((1, 2),), (1, None), (FAR, FAR), (FAR + 1, FAR),
        ):
            right = oracles.right_moment(moment)
            if right:
                self.judge(TWO.sizes, APART, ("level", (0, 4)), moment)
            else:
                with self.assertRaises(NoMoment):
                    places_at(TWO, APART, ("level", (0, 4)), moment)

    def test_strange_moments(self):
        for thing in strange_things() + spoiled((1, 2)):
            if oracles.right_moment(thing):
                self.judge(TWO.sizes, APART, ("level", (0, 4)), thing)
            else:
                with self.assertRaises(NoMoment):
                    places_at(TWO, APART, ("level", (0, 4)), thing)


class Freedom(unittest.TestCase):

    def judge(self, sizes, picture, stroke):
        """What is said of a stroke, and of the same one with across and down exchanged, is right."""
        other_way = "upright" if stroke[0] == "level" else "level"
        turned = (turned_over(sizes), turned_over(picture), (other_way, stroke[1]))
        right = oracles.first_hit(sizes, picture, stroke)
        self.assertEqual(oracles.free_by_fact(sizes, picture, stroke), right is None)
        for boxes, places, thing in ((sizes, picture, stroke), turned):
            self.assertEqual(first_hit(Boxes(boxes), places, thing), right, (boxes, places, thing))
            self.assertIs(is_free(Boxes(boxes), places, thing), right is None)

    def hit(self, sizes, picture, goals, right):
        """The level stroke to these goals has the right first hit."""
        self.judge(sizes, picture, ("level", goals))
        self.assertEqual(first_hit(Boxes(sizes), picture, ("level", goals)), right)

    def test_the_examples(self):
        self.assertEqual(first_hit(TWO, APART, ("level", (4, 0))), ((1, 4), 0, 1))
        self.assertIs(is_free(TWO, APART, ("upright", (5, 0))), True)

    def test_boxes_that_only_touch(self):
        self.hit(TWO.sizes, APART, (2, 4), None)
        self.hit(TWO.sizes, APART, (4, 6), None)
        self.hit(TWO.sizes, ((0, 0), (2, 0)), (5, 7), None)
        self.hit(TWO.sizes, ((0, 0), (2, 0)), (5, 9), None)
        self.hit(TWO.sizes, ((0, 0), (4, 1)), (4, 0), None)
        self.hit(TWO.sizes, ((0, 0), (4, -1)), (4, 0), None)
        self.hit(TWO.sizes, ((0, 0), (0, 1)), (9, 9), None)

    def test_boxes_that_meet_on_their_way(self):
        self.hit(TWO.sizes, APART, (3, 4), ((2, 3), 0, 1))
        self.hit(TWO.sizes, ((4, 0), (0, 0)), (1, 0), ((2, 3), 0, 1))
        self.hit(TWO.sizes, APART, (4, 5), ((2, 3), 0, 1))
        self.hit(TWO.sizes, APART, (6, 4), ((1, 3), 0, 1))
        self.hit(((1, 1), (5, 9)), ((-10, 3), (0, 0)), (10, 0), ((9, 20), 0, 1))

    def test_boxes_that_overlap_at_the_end_alone(self):
        self.hit(TWO.sizes, ((0, 0), (1000, 0)), (0, 1), ((998, 999), 0, 1))
        self.hit(TWO.sizes, ((0, 0), (FAR, 0)), (0, 1), ((FAR - 2, FAR - 1), 0, 1))

    def test_boxes_that_meet_at_moment_0(self):
        self.hit(TWO.sizes, ((0, 0), (2, 0)), (1, 2), ((0, 1), 0, 1))
        self.hit(TWO.sizes, ((2, 0), (0, 0)), (1, 0), ((0, 1), 0, 1))
        self.hit(TWO.sizes, ((0, 0), (2, 0)), (2, 0), ((0, 1), 0, 1))
        self.hit(((1, 1),) * 4, ((0, 0), (1, 0), (5, 0), (6, 0)), (0, 1, 6, 5), ((0, 1), 2, 3))

    def test_boxes_that_pass_through_one_another_wholly(self):
        self.hit(TWO.sizes, ((0, 0), (10, 0)), (10, 0), ((2, 5), 0, 1))
        self.hit(TWO.sizes, ((0, 0), (10, 0)), (1000, 10), ((1, 125), 0, 1))
        self.hit(TWO.sizes, ((0, 0), (10, 0)), (20, -20), ((4, 25), 0, 1))

    def test_of_several_moments_the_least(self):
        sizes = ((1, 1),) * 6
        picture = ((0, 0), (9, 0), (0, 5), (4, 5), (0, 9), (7, 9))
        self.hit(sizes, picture, (9, 0, 4, 0, 7, 0), ((3, 8), 2, 3))
        self.hit(sizes, picture, (9, 0, 0, 4, 7, 0), ((3, 7), 4, 5))
        self.hit(sizes, picture, (9, 0, 0, 4, 0, 7), ((4, 9), 0, 1))

    def test_of_several_pairs_at_one_moment_the_least(self):
        sizes = ((1, 1),) * 6
        picture = ((0, 9), (5, 5), (5, 0), (0, 0), (0, 5), (5, 9))
        self.hit(sizes, picture, (5, 0, 0, 5, 5, 0), ((2, 5), 0, 5))
        self.hit(sizes, picture, (0, 0, 0, 5, 5, 5), ((2, 5), 1, 4))
        self.hit(((1, 1),) * 3, ((0, 0), (2, 0), (4, 0)), (4, 2, 0), ((1, 4), 0, 1))

    def test_two_boxes_and_all_near_goals(self):
        sizes = ((3, 2), (2, 3))
        for picture in (((0, 0), (3, 0)), ((0, 0), (5, 1)), ((0, 0), (-4, -2)), ((0, 0), (-2, 2)), ((0, 0), (1, 3))):
            for goals in product(range(-4, 5), repeat=2):
                self.judge(sizes, picture, ("level", goals))
                self.judge(sizes, picture, ("upright", goals))

    def test_many_boxes(self):
        samples = Samples(33)
        outcomes = {True: 0, False: 0}
        for _ in range(400):
            sizes = samples.sizes(samples.number(1, 6))
            picture = samples.picture(sizes)
            stroke = samples.stroke(picture, samples.number(0, 8))
            self.judge(sizes, picture, stroke)
            outcomes[oracles.free_by_fact(sizes, picture, stroke)] += 1
        self.assertGreater(min(outcomes.values()), 50)

    def test_the_fact_of_strokes_for_40_boxes(self):
        samples = Samples(34)
        sizes = samples.sizes(40)
        for reach in (12, 40, 200):
            picture = samples.picture(sizes, reach)
            for step in (0, 1, 2, 400):
                stroke = samples.stroke(picture, step)
                free = oracles.free_by_fact(sizes, picture, stroke)
                self.assertIs(is_free(Boxes(sizes), picture, stroke), free)
                self.assertIs(first_hit(Boxes(sizes), picture, stroke) is None, free)

    def test_numbers_of_20_digits(self):
        self.hit(TWO.sizes, ((-FAR, 0), (FAR, 0)), (FAR, -FAR), (((FAR - 1) // 2, FAR), 0, 1))
        self.hit(TWO.sizes, ((-FAR, 0), (FAR, 0)), (FAR - 2, FAR), None)
        self.assertIs(is_free(TWO, ((-FAR, 0), (FAR, 0)), ("upright", (FAR, -FAR))), True)

    def test_one_box_alone_is_always_free(self):
        one = Boxes(((1000, 1000),))
        for way in SIDES:
            self.assertIs(is_free(one, ((0, 0),), (way, (7,))), True)
            self.assertIsNone(first_hit(one, ((0, 0),), (way, (0,))))


class Wrong(unittest.TestCase):

    def judge(self, thing):
        """A thing is a stroke from APART, or it is none, for each function."""
        if oracles.right_stroke(TWO.sizes, thing):
            self.assertEqual(moved(TWO, APART, thing), oracles.moved(APART, thing))
            self.assertIs(is_free(TWO, APART, thing), oracles.free_by_fact(TWO.sizes, APART, thing))
            self.assertEqual(first_hit(TWO, APART, thing), oracles.first_hit(TWO.sizes, APART, thing))
            self.assertEqual(
                places_at(TWO, APART, thing, (1, 1)), tuple(told(place) for place in oracles.moved(APART, thing)))
            return
        self.assertIs(is_free(TWO, APART, thing), False)
        with self.assertRaises(NoStroke):
            moved(TWO, APART, thing)
        with self.assertRaises(NoStroke):
            first_hit(TWO, APART, thing)
        for moment in ((1, 2), None):
            with self.assertRaises(NoStroke):
                places_at(TWO, APART, thing, moment)

    def test_strange_strokes(self):
        for thing in strange_things():
            self.judge(thing)

    def test_spoiled_strokes(self):
        for way in SIDES:
            for thing in spoiled((way, (0, 4))):
                self.judge(thing)

    def test_strokes_of_each_wrong_kind(self):
        for thing in (
            ("Level", (0, 4)), ("levels", (0, 4)), ("", (0, 4)), ("lev", (0, 4)), ("up", (0, 4)), (0, (0, 4)),
            (b"level", (0, 4)), (None, (0, 4)), (("level",), (0, 4)), (["level"], (0, 4)), ("level", (0,)),
            ("level", (0, 4, 8)), ("level", ()), ("level", [0, 4]), ("level", (0, True)), ("level", (False, 4)),
            ("level", (0, None)), ("level", ((0,), (4,))), ("level", ((0, 0), (4, 0))), ("level", "04"), ("level", 0, 4),
            ("level",), ("level", (0, 4), None), ["level", (0, 4)], ((0, 4), "level"), None, "level", {"level": (0, 4)},
        ):
            self.assertFalse(oracles.right_stroke(TWO.sizes, thing))
            self.judge(thing)

    def test_what_is_no_picture_comes_first(self):
        for picture in strange_things() + spoiled(APART) + [((0, 0), (1, 0)), ((0, 0), (0, 0))]:
            if oracles.right_picture(TWO.sizes, picture):
                continue
            for stroke in (("level", (0, 4)), None):
                with self.assertRaises(NoPicture):
                    moved(TWO, picture, stroke)
                with self.assertRaises(NoPicture):
                    is_free(TWO, picture, stroke)
                with self.assertRaises(NoPicture):
                    first_hit(TWO, picture, stroke)
                for moment in ((1, 2), None):
                    with self.assertRaises(NoPicture):
                        places_at(TWO, picture, stroke, moment)


if __name__ == "__main__":
    unittest.main()
