"""Columns: 4.1."""

import unittest
from itertools import permutations, product

import list_oracles
import oracles
from fourstrokes.boards import twist
from fourstrokes.boxes import Boxes
from fourstrokes.columns import barring, broad, column_script, column_three, is_within
from fourstrokes.errors import NoPicture, NotWithin, NoWidth
from list_oracles import ListSamples
from wrongs import check_due, check_judge, check_kinds, raised

TWO = Boxes(((2, 1), (2, 1)))
PILE = ((0, 0), (0, 1))
TURNED = ((0, 1), (0, 0))
FROM_PICTURES = (barring, column_script, column_three)
WIDTHS = [0, 1, -1, 10 ** 6, 10 ** 6 + 1, -(10 ** 6), 10 ** 20 - 1, 2, 3, 4, "4", (4,), [4], b"4", None, True, False]


class Widths(unittest.TestCase):

    def test_as_great_as_the_broadest_box_and_one_less(self):
        for sizes, least in ((((2, 1),), 2), (((1, 9), (5, 1), (3, 1)), 5), (((1000, 1),) * 40, 1000), (((1, 9),), 1)):
            boxes = Boxes(sizes)
            for width in (least, least + 1, 2 * least, 10 ** 6):
                self.assertEqual(broad(boxes, width), list_oracles.broad(sizes, width))
            for width in (least - 1, 0, -least, 10 ** 6 + 1):
                self.assertIs(type(raised(broad, (boxes, width))), NoWidth)

    def test_what_is_no_width(self):
        def right(thing):
            return list_oracles.right_width(TWO.sizes, thing)
        for call in FROM_PICTURES:
            check_kinds(self, call, (TWO, 4, PILE, PILE), 1, right, NoWidth, WIDTHS)
        check_kinds(self, is_within, (TWO, 4, PILE), 1, right, NoWidth, WIDTHS)
        check_kinds(self, broad, (TWO, 4), 1, right, NoWidth, WIDTHS)

    def test_a_flag_is_no_width_of_a_box_as_broad_as_1(self):
        boxes = Boxes(((1, 1),))
        self.assertEqual(broad(boxes, 1), [])
        for width in (True, False):
            self.assertIs(type(raised(broad, (boxes, width))), NoWidth)
            self.assertIs(type(raised(is_within, (boxes, width, ((0, 0),)))), NoWidth)

    def test_no_width_comes_first(self):
        for call in FROM_PICTURES:
            check_due(self, call, (TWO, 4, PILE, TURNED), [
                (1, 1, NoWidth), (2, None, NoPicture), (3, ((0, 0), (0, 0)), NoPicture),
                (2, ((3, 0), (0, 1)), NotWithin), (3, ((0, 0), (-1, 1)), NotWithin),
            ])
        for thing in (None, PILE, ((9, 9), (0, 0))):
            self.assertIs(type(raised(is_within, (TWO, 1, thing))), NoWidth)


class Within(unittest.TestCase):

    def test_edges_at_the_sides_and_beyond(self):
        for x, y in product(range(-2, 6), repeat=2):
            picture = ((x, 0), (y, 1))
            self.assertIs(is_within(TWO, 4, picture), 0 <= x <= 2 and 0 <= y <= 2, picture)

    def test_a_box_as_broad_as_the_column(self):
        boxes = Boxes(((4, 1), (1, 1)))
        for x, right in ((-1, False), (0, True), (1, False)):
            self.assertIs(is_within(boxes, 4, ((x, 0), (0, 1))), right)

    def test_up_and_down_it_has_no_end(self):
        far = 10 ** 20 - 1
        self.assertIs(is_within(TWO, 2, ((0, far), (0, -far))), True)
        self.assertIs(is_within(TWO, 10 ** 6, ((10 ** 6 - 2, far), (0, far))), True)
        self.assertIs(is_within(TWO, 10 ** 6, ((10 ** 6 - 1, far), (0, far))), False)

    def test_pictures_that_overlap(self):
        self.assertIs(is_within(TWO, 4, ((0, 0), (1, 0))), False)
        self.assertIs(is_within(TWO, 4, ((0, 0), (2, 0))), True)

    def test_it_judges_any_thing(self):
        def right(thing):
            return oracles.right_picture(TWO.sizes, thing) and list_oracles.within(TWO.sizes, 4, thing)
        check_judge(self, is_within, (TWO, 4), right, PILE)
        check_judge(self, is_within, (TWO, 4), right, ((0, 0), (2, 0)))

    def test_many_pictures(self):
        samples = ListSamples(61)
        for _ in range(300):
            sizes = samples.sizes(samples.number(1, 6))
            width = samples.number(3, 7)
            places = samples.places(sizes, 4)
            right = oracles.overlaps(sizes, places) == [] and list_oracles.within(sizes, width, places)
            self.assertIs(is_within(Boxes(sizes), width, places), right)
            self.assertIs(is_within(Boxes(sizes), width, samples.column_picture(sizes, width)), True)


class Broad(unittest.TestCase):

    def test_the_example(self):
        self.assertEqual(broad(TWO, 3), [(0, 1)])

    def test_two_that_are_just_as_broad_as_the_column_and_one_more(self):
        self.assertEqual(broad(TWO, 4), [])
        self.assertEqual(broad(Boxes(((2, 1), (3, 1))), 4), [(0, 1)])
        self.assertEqual(broad(Boxes(((1000, 1), (1000, 1))), 2000), [])
        self.assertEqual(broad(Boxes(((1000, 1), (1000, 1))), 1999), [(0, 1)])

    def test_one_box(self):
        self.assertEqual(broad(Boxes(((7, 1),)), 7), [])

    def test_all_widths(self):
        sizes = ((1, 1), (4, 1), (2, 9), (3, 1), (4, 2), (1, 1))
        for width in range(4, 10):
            found = broad(Boxes(sizes), width)
            self.assertEqual(found, list_oracles.broad(sizes, width))
            self.assertEqual(found, sorted(found))

    def test_a_new_list_each_time(self):
        first = broad(TWO, 3)
        self.assertIs(type(first), list)
        first.append("more")
        self.assertEqual(broad(TWO, 3), [(0, 1)])
        self.assertIsNot(broad(TWO, 4), broad(TWO, 4))


class Scripts(unittest.TestCase):

    def judge(self, sizes, width, one, other):
        """All that is said of the way from one to other; whether there is one is returned."""
        boxes = Boxes(sizes)
        bar = list_oracles.barring(sizes, width, one, other)
        self.assertEqual(barring(boxes, width, one, other), bar, (sizes, width, one, other))
        script = column_script(boxes, width, one, other)
        self.assertIs(script is None, bar is not None)
        if script is not None:
            self.assertIs(type(script), tuple)
            self.assertLessEqual(len(script), 2 * len(sizes) + 4)
            self.assertTrue(list_oracles.right_column_script(sizes, width, one, other, script), (one, other, script))
        self.judge_three(sizes, width, one, other)
        return bar is None

    def judge_three(self, sizes, width, one, other):
        boxes = Boxes(sizes)
        three = column_three(boxes, width, one, other)
        ringed = oracles.has_ring(len(sizes), oracles.above(sizes, one) + oracles.above(sizes, other))
        self.assertIs(three is None, ringed, (sizes, width, one, other))
        self.assertIs(twist(boxes, one, other, "upright") is None, not ringed)
        if three is not None:
            self.assertEqual(tuple(way for way, _ in three), ("upright", "level", "upright"))
            self.assertTrue(list_oracles.right_column_script(sizes, width, one, other, three))

    def test_the_examples(self):
        self.assertEqual(barring(TWO, 3, PILE, TURNED), (0, 1))
        self.assertIsNotNone(column_script(TWO, 4, PILE, TURNED))

    def test_two_boxes_turned(self):
        for width, right in ((2, False), (3, False), (4, True), (5, True), (10 ** 6, True)):
            self.assertIs(self.judge(TWO.sizes, width, PILE, TURNED), right)
            self.assertIs(self.judge(TWO.sizes, width, TURNED, PILE), right)
        self.assertIsNone(column_script(TWO, 3, PILE, TURNED))
        self.assertIsNone(column_three(TWO, 4, PILE, TURNED))

    def test_broad_boxes_of_which_one_is_just_above(self):
        self.assertTrue(self.judge(TWO.sizes, 3, ((0, 0), (1, 1)), ((1, -9), (0, 9))))
        self.assertFalse(self.judge(TWO.sizes, 3, ((0, 0), (1, 1)), ((1, 9), (0, -9))))
        self.assertFalse(self.judge(TWO.sizes, 3, ((1, 5), (0, 4)), ((1, 4), (0, 5))))

    def test_two_boxes_that_are_side_by_side_in_one_picture(self):
        row, swapped = ((0, 0), (2, 0)), ((2, 0), (0, 0))
        for one, other in product((PILE, TURNED, row, swapped), repeat=2):
            self.assertTrue(self.judge(TWO.sizes, 4, one, other))
        self.assertIsNotNone(column_three(TWO, 4, row, swapped))

    def test_one_box(self):
        for width, x in ((5, 0), (6, 1), (10 ** 6, 10 ** 6 - 5)):
            for y in (0, 1, 10 ** 20 - 1):
                self.assertTrue(self.judge(((5, 3),), width, ((0, 0),), ((x, y),)))

    def test_two_boxes_of_the_width_itself(self):
        sizes = ((5, 1), (5, 2))
        self.assertTrue(self.judge(sizes, 5, ((0, 0), (0, 1)), ((0, -7), (0, 70))))
        self.assertTrue(self.judge(sizes, 5, ((0, 0), (0, 1)), ((0, 0), (0, 1))))
        self.assertFalse(self.judge(sizes, 5, ((0, 0), (0, 1)), ((0, 2), (0, 0))))

    def test_the_least_of_several_that_bar(self):
        sizes = ((1, 1), (2, 1), (2, 1), (3, 1))
        pile = tuple((0, y) for y in range(4))
        for order in permutations(range(4)):
            other = tuple((0, y) for y in order)
            for width in range(3, 8):
                self.judge(sizes, width, pile, other)
                self.judge(sizes, width, other, pile)
        self.assertEqual(barring(Boxes(sizes), 4, pile, pile[::-1]), (1, 3))
        self.assertEqual(barring(Boxes(sizes), 3, pile, pile[::-1]), (0, 3))
        self.assertEqual(barring(Boxes(sizes), 3, pile, ((0, 0), (0, 2), (0, 1), (0, 3))), (1, 2))

    def test_a_picture_to_itself(self):
        samples = ListSamples(62)
        for _ in range(50):
            sizes = samples.sizes(samples.number(1, 6))
            picture = samples.column_picture(sizes, 4)
            self.assertTrue(self.judge(sizes, 4, picture, picture))

    def test_all_pictures_of_few_boxes(self):
        sizes = ((1, 1), (2, 1), (1, 2))
        for width in (2, 3):
            places = [list(product(range(width - size[0] + 1), range(3))) for size in sizes]
            every = [picture for picture in product(*places) if oracles.overlaps(sizes, picture) == []]
            for one, other in product(every[::5], every[::3]):
                self.judge(sizes, width, one, other)

    def test_a_full_search_of_a_small_column(self):
        sizes = ((1, 1), (2, 1), (2, 1))
        width, rows = 3, 5
        places = [list(product(range(width - size[0] + 1), range(rows))) for size in sizes]
        every = [picture for picture in product(*places) if oracles.overlaps(sizes, picture) == []]
        free = [list(product(range(width), repeat=3)), list(product(range(rows), repeat=3))]
        begin = every[17]
        reached = {begin}
        coming = [begin]
        for picture in coming:
            for way, goals in zip(("level", "upright"), free):
                for goal in goals:
                    after = oracles.moved(picture, (way, goal))
                    if after not in reached and list_oracles.within(sizes, width, after):
                        if oracles.free_by_fact(sizes, picture, (way, goal)):
                            reached.add(after)
                            coming.append(after)
        self.assertLess(len(reached), len(every))
        for picture in every:
            found = column_script(Boxes(sizes), width, begin, picture)
            self.assertIs(found is not None, picture in reached, picture)

    def test_pictures_of_many_kinds(self):
        samples = ListSamples(63)
        counts = {True: 0, False: 0}
        threes = {True: 0, False: 0}
        for turn in range(400):
            sizes = samples.sizes(samples.number(1, 7))
            width = samples.number(3, 3 + turn % 7)
            one = samples.column_picture(sizes, width)
            other = samples.column_picture(sizes, width)
            if turn % 2:
                other = samples.column_neighbour(sizes, width, one, samples.number(1, 8))
            counts[self.judge(sizes, width, one, other)] += 1
            threes[column_three(Boxes(sizes), width, one, other) is None] += 1
        self.assertGreater(min(counts.values()), 60, counts)
        self.assertGreater(min(threes.values()), 60, threes)

    def test_40_boxes(self):
        sizes = ((3, 2),) * 40
        pile = tuple((0, 2 * box) for box in range(40))
        grid = tuple((3 * (box % 8), 2 * (box // 8)) for box in range(40))
        row = tuple((3 * box, 0) for box in range(40))
        far = tuple((0, (-1) ** box * box * 10 ** 18) for box in range(40))
        for one, other in product((pile, pile[::-1], far, far[::-1]), repeat=2):
            self.judge(sizes, 3, one, other)
            self.assertTrue(self.judge(sizes, 6, one, other))
        for one, other in product((pile, pile[::-1], grid, grid[::-1], far), repeat=2):
            self.assertTrue(self.judge(sizes, 24, one, other))
        for one, other in product((pile[::-1], grid, row, row[::-1]), repeat=2):
            self.assertTrue(self.judge(sizes, 120, one, other))
            self.assertTrue(self.judge(sizes, 10 ** 6, one, other))

    def test_40_boxes_of_many_sizes(self):
        samples = ListSamples(64)
        for longest, width in ((3, 3), (3, 7), (9, 20), (1000, 1000), (1000, 3000), (1000, 10 ** 6)):
            sizes = samples.sizes(40, longest)
            one = samples.column_picture(sizes, width, 20 * longest)
            self.judge(sizes, width, one, samples.column_picture(sizes, width, 20 * longest))
            self.assertTrue(self.judge(sizes, width, one, samples.column_neighbour(sizes, width, one, 20)))
            self.assertTrue(self.judge(sizes, 10 ** 6, one, samples.column_picture(sizes, 10 ** 6, 20 * longest)))

    def test_what_is_no_picture(self):
        def right(thing):
            return oracles.right_picture(TWO.sizes, thing)
        wrong = [((0, 0), (1, 0)), ((0, 0),), (), [(0, 0), (0, 1)], ((-9, 0), (-8, 0))]
        for call in FROM_PICTURES:
            for place in (2, 3):
                check_kinds(self, call, (TWO, 4, PILE, PILE), place, right, NoPicture, wrong)

    def test_what_is_not_within(self):
        for call in FROM_PICTURES:
            for place in (2, 3):
                for picture in (((-1, 0), (0, 1)), ((0, 0), (3, 1)), ((9, 0), (0, 0)), ((0, 0), (-(10 ** 19), 0))):
                    arguments = [TWO, 4, PILE, PILE]
                    arguments[place] = picture
                    self.assertIs(type(raised(call, arguments)), NotWithin, picture)

    def test_no_picture_of_either_comes_ahead_of_not_within_of_either(self):
        outside = ((3, 0), (0, 1))
        for call in FROM_PICTURES:
            for one, other, error in (
                (outside, None, NoPicture), (None, outside, NoPicture), (outside, outside, NotWithin),
                (outside, PILE, NotWithin), (PILE, outside, NotWithin), (outside, ((0, 0), (0, 0)), NoPicture),
            ):
                self.assertIs(type(raised(call, (TWO, 4, one, other))), error)


if __name__ == "__main__":
    unittest.main()
