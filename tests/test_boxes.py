"""Boxes, their places, pictures: 1.1."""

import unittest
from itertools import product

import oracles
from fourstrokes.boxes import Boxes, is_picture, overlaps
from fourstrokes.errors import BadBoxes, NoPlaces, StrokeError
from oracles import Samples
from things import deep_things, spoiled, strange_things

TWO = Boxes(((2, 1), (2, 1)))


class BoxesMade(unittest.TestCase):

    def part_of(self, sizes):
        """The part of the BadBoxes that these sizes raise."""
        with self.assertRaises(BadBoxes) as caught:
            Boxes(sizes)
        return caught.exception.part

    def test_sizes_and_many_are_set(self):
        for sizes in (((1, 1),), ((1000, 1000),), ((1, 1000), (1000, 1)), ((2, 3),) * 40):
            boxes = Boxes(sizes)
            self.assertEqual(boxes.sizes, sizes)
            self.assertIs(type(boxes.sizes), tuple)
            self.assertEqual(boxes.many, len(sizes))
            self.assertIs(type(boxes.many), int)

    def test_no_box_and_more_than_40(self):
        for sizes in ((), ((1, 1),) * 41, ((1, 1),) * 500, ((0, 0),) * 41, (None,) * 41):
            self.assertEqual(self.part_of(sizes), -1)

    def test_no_tuple(self):
        for thing in strange_things():
            if type(thing) is not tuple:
                self.assertEqual(self.part_of(thing), -1, thing)
        self.assertEqual(self.part_of([(1, 1)]), -1)
        self.assertEqual(self.part_of({(1, 1): 0}), -1)
        self.assertEqual(self.part_of(Boxes(((1, 1),))), -1)

    def test_the_first_item_that_is_no_size(self):
        self.assertEqual(self.part_of((None, (1, 1), None)), 0)
        self.assertEqual(self.part_of(((1, 1), (1, 0), (0, 1))), 1)
        self.assertEqual(self.part_of(((1, 1), [1, 1], (0, 1))), 1)
        self.assertEqual(self.part_of(((1, 1),) * 39 + ((1, 1001),)), 39)

    def test_lengths_beyond_the_limits_and_of_other_kinds(self):
        for length in [0, 1001, -1, 10 ** 19, -(10 ** 19), True, False, None, "1", b"1", (1,), [1]]:
            self.assertEqual(self.part_of(((1, 1), (length, 1))), 1, length)
            self.assertEqual(self.part_of(((1, 1), (1, length))), 1, length)
            self.assertEqual(self.part_of(((length, length), (1, length))), 0, length)

    def test_pairs_too_short_and_too_long(self):
        for size in ((), (1,), (1, 1, 1), (1, 1, 1, 1), ((1, 1),), ((1, 1), (1, 1))):
            self.assertEqual(self.part_of((size,)), 0, size)
            self.assertEqual(self.part_of(((1, 1), size)), 1, size)

    def test_other_things_as_sizes_and_lengths(self):
        for thing in strange_things():
            if oracles.integers(thing, 2) and all(1 <= length <= 1000 for length in thing):
                continue
            self.assertEqual(self.part_of(((5, 5), thing, (5, 5))), 1, thing)
            if not oracles.integer(thing) or not 1 <= thing <= 1000:
                self.assertEqual(self.part_of(((5, 5), (5, 5), (thing, 5))), 2, thing)
                self.assertEqual(self.part_of(((5, thing), (5, 5))), 0, thing)

    def test_deeply_nested_things(self):
        for thing in deep_things():
            self.assertIn(self.part_of(thing), (-1, 0))
            self.assertEqual(self.part_of(((1, 1), thing)), 1)

    def test_equal_exactly_if_the_sizes_are(self):
        every = [((1, 1),), ((1, 2),), ((2, 1),), ((1, 1), (1, 1)), ((1, 2), (2, 1)), ((2, 1), (1, 2)), ((2, 1),) * 40]
        for one, other in product(every, every):
            self.assertIs(Boxes(one) == Boxes(other), one == other)
            self.assertIs(Boxes(one) != Boxes(other), one != other)

    def test_equal_to_nothing_of_another_class(self):
        boxes = Boxes(((2, 1), (2, 1)))
        for thing in strange_things() + [boxes.sizes, list(boxes.sizes), 2, 1.5, {1}]:
            if not isinstance(thing, Boxes):
                self.assertIs(boxes == thing, False)
                self.assertIs(thing == boxes, False)
                self.assertIs(boxes != thing, True)

        class Alike:
            sizes = boxes.sizes
            many = 2
        self.assertFalse(boxes == Alike())


class Overlaps(unittest.TestCase):

    def test_the_example(self):
        self.assertEqual(overlaps(TWO, ((0, 0), (1, 0))), [(0, 1)])

    def test_two_boxes_at_all_near_places(self):
        boxes = Boxes(((3, 2), (2, 4)))
        for x, y in product(range(-6, 7), repeat=2):
            places = ((-1, -2), (x, y))
            cells = set(product(range(-1, 2), range(-2, 0))) & set(product(range(x, x + 2), range(y, y + 4)))
            self.assertEqual(overlaps(boxes, places), [(0, 1)] if cells else [], places)
            self.assertIs(is_picture(boxes, places), not cells)

    def test_edges_and_corners_in_common_are_no_overlap(self):
        for place in ((2, 0), (-2, 0), (0, 1), (0, -1), (2, 1), (-2, -1), (1, 1), (1, -1)):
            self.assertEqual(overlaps(TWO, ((0, 0), place)), [])
            self.assertIs(is_picture(TWO, ((0, 0), place)), True)

    def test_a_box_within_another_one(self):
        boxes = Boxes(((1, 1), (9, 9)))
        self.assertEqual(overlaps(boxes, ((4, 4), (0, 0))), [(0, 1)])
        self.assertEqual(overlaps(boxes, ((0, 0), (0, 0))), [(0, 1)])

    def test_many_boxes(self):
        samples = Samples(11)
        for _ in range(300):
            sizes = samples.sizes(samples.number(1, 8))
            places = samples.places(sizes, 5)
            self.assertEqual(overlaps(Boxes(sizes), places), oracles.overlaps(sizes, places))
            self.assertIs(is_picture(Boxes(sizes), places), not oracles.overlaps(sizes, places))

    def test_40_boxes_at_one_place(self):
        boxes = Boxes(((1, 1),) * 40)
        pairs = [(one, other) for one in range(40) for other in range(one + 1, 40)]
        self.assertEqual(overlaps(boxes, ((5, -5),) * 40), pairs)
        self.assertEqual(overlaps(boxes, tuple((number, 0) for number in range(40))), [])

    def test_large_places(self):
        far = 10 ** 20 - 1
        self.assertEqual(overlaps(TWO, ((far, -far), (far - 1, -far))), [(0, 1)])
        self.assertEqual(overlaps(TWO, ((far, -far), (far - 2, -far))), [])
        self.assertEqual(overlaps(TWO, ((far, far), (-far, -far))), [])

    def test_a_new_list_each_time(self):
        places = ((0, 0), (1, 0))
        first = overlaps(TWO, places)
        second = overlaps(TWO, places)
        self.assertIs(type(first), list)
        self.assertIsNot(first, second)
        first.append("more")
        self.assertEqual(second, [(0, 1)])
        self.assertEqual(overlaps(TWO, places), [(0, 1)])
        self.assertIsNot(overlaps(TWO, ((0, 0), (9, 9))), overlaps(TWO, ((0, 0), (9, 9))))


class Wrong(unittest.TestCase):

    def judge(self, boxes, thing):
        """What is said of a thing is what the oracle says of it."""
        self.assertIs(is_picture(boxes, thing), oracles.right_picture(boxes.sizes, thing))
        if oracles.right_places(boxes.sizes, thing):
            self.assertEqual(overlaps(boxes, thing), oracles.overlaps(boxes.sizes, thing))
        else:
            with self.assertRaises(NoPlaces):
                overlaps(boxes, thing)

    def test_strange_things(self):
        for boxes in (Boxes(((1, 1),)), TWO):
            for thing in strange_things():
                self.judge(boxes, thing)

    def test_spoiled_places(self):
        for thing in spoiled(((0, 0), (2, 0))):
            self.judge(TWO, thing)
        for thing in spoiled(((0, 0),)):
            self.judge(Boxes(((1, 1),)), thing)

    def test_places_of_each_wrong_kind(self):
        for thing in (
            ((0, 0),), ((0, 0), (2, 0), (4, 0)), (), [(0, 0), (2, 0)], ([0, 0], [2, 0]), ((0, 0), [2, 0]),
            ((0, 0), (True, 0)), ((False, 0), (2, 0)), ((0, 0), (2, False)), ((0, 0), (2, 0, 0)), ((0, 0), (2,)),
            ((0, 0), None), (None, (0, 0)), ((0, 0), "20"), ((0, 0), ("2", 0)), (0, 0), None, "((0, 0), (2, 0))",
            {0: (0, 0), 1: (2, 0)}, Boxes(((2, 1), (2, 1))), ((0, 0), ((2, 0),)), (((0, 0), (2, 0)),),
        ):
            self.assertIs(is_picture(TWO, thing), False, thing)
            with self.assertRaises(NoPlaces):
                overlaps(TWO, thing)

    def test_overlapping_places_are_places_but_no_picture(self):
        self.assertEqual(overlaps(TWO, ((0, 0), (0, 0))), [(0, 1)])
        self.assertIs(is_picture(TWO, ((0, 0), (0, 0))), False)

    def test_no_places_is_no_other_error(self):
        with self.assertRaises(StrokeError) as caught:
            overlaps(TWO, None)
        self.assertIs(type(caught.exception), NoPlaces)


if __name__ == "__main__":
    unittest.main()
