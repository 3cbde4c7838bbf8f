"""Lists and passes: 5.1."""

import unittest
from itertools import permutations, product

import list_oracles
import oracles
from fourstrokes.boxes import Boxes
from fourstrokes.errors import NoList, NoPicture, NoWidth
from fourstrokes.lists import broadest, can_pass, is_stand, list_of, listed, stand, turned
from fourstrokes.scripts import led
from list_oracles import ListSamples
from things import deep_things
from wrongs import check_due, check_judge, check_kinds, raised

THREE = Boxes(((1, 1), (1, 1), (1, 1)))
MIXED = ((1, 2), (3, 1), (2, 4), (1, 1))
NO_LISTS = [
    (0, 0, 1), (0, 1), (0, 1, 2, 3), (0, 1, 3), (-1, 0, 1), (1, 2, 3), (False, 1, 2), (0, True, 2), [0, 1, 2], (), None,
    (0, 1, 2, 0), (0, 1, "2"), (0, 1, None), (0, 1, (2,)), (0, 1, [2]), "012", range(3), {0: 0, 1: 1, 2: 2}, ((0, 1, 2),),
    (0, 10 ** 20 - 1, 2), (0, 1, b"2"),
] + deep_things()


class Lists(unittest.TestCase):

    def test_listed(self):
        self.assertEqual(listed(THREE, (0, 1, 2)), ((0, 0), (0, 1), (0, 2)))
        self.assertEqual(listed(THREE, (2, 0, 1)), ((0, 1), (0, 2), (0, 0)))
        self.assertEqual(listed(Boxes(MIXED), (2, 0, 3, 1)), ((0, 4), (0, 7), (0, 0), (0, 6)))
        self.assertEqual(listed(Boxes(((9, 9),)), (0,)), ((0, 0),))

    def test_all_orders_of_few_boxes(self):
        for many in range(1, 5):
            boxes = Boxes(MIXED[:many])
            for order in permutations(range(many)):
                picture = listed(boxes, order)
                self.assertEqual(picture, list_oracles.listed(MIXED[:many], order))
                self.assertEqual(list_of(boxes, picture), order)
                self.assertIs(type(list_of(boxes, picture)), tuple)

    def test_40_boxes(self):
        samples = ListSamples(71)
        for longest in (1, 9, 1000):
            sizes = samples.sizes(40, longest)
            for order in (tuple(range(40)), tuple(range(40))[::-1], samples.order(40), samples.order(40)):
                picture = listed(Boxes(sizes), order)
                self.assertEqual(picture, list_oracles.listed(sizes, order))
                self.assertEqual(list_of(Boxes(sizes), picture), order)

    def test_list_of_pictures_with_two_in_one_row(self):
        self.assertIsNone(list_of(THREE, ((0, 0), (1, 0), (0, 5))))
        self.assertIsNone(list_of(THREE, ((0, 0), (0, 5), (9, 5))))
        boxes = Boxes(((1, 3), (1, 3)))
        for y in range(-5, 6):
            right = (1, 0) if y <= -3 else (0, 1) if y >= 3 else None
            self.assertEqual(list_of(boxes, ((0, 0), (5, y))), right, y)

    def test_list_of_boxes_that_only_touch_and_boxes_far_apart(self):
        self.assertEqual(list_of(THREE, ((0, 1), (1, 0), (2, 2))), (1, 0, 2))
        far = 10 ** 20 - 1
        self.assertEqual(list_of(THREE, ((far, far), (0, 0), (-far, -far))), (2, 1, 0))

    def test_list_of_a_high_box_beside_low_ones(self):
        self.assertIsNone(list_of(Boxes(((1, 9), (1, 1), (1, 1))), ((0, 0), (1, 8), (1, 20))))
        self.assertEqual(list_of(Boxes(((1, 9), (1, 1), (1, 1))), ((0, 0), (1, 9), (1, 20))), (0, 1, 2))

    def test_list_of_many_pictures(self):
        samples = ListSamples(72)
        counts = [0, 0]
        for _ in range(300):
            sizes = samples.sizes(samples.number(1, 4))
            picture = samples.picture(sizes, 6)
            rows = list(oracles.left_of(sizes, picture))
            right = None if rows else tuple(sorted(range(len(sizes)), key=lambda box: picture[box][1]))
            counts[right is None] += 1
            self.assertEqual(list_of(Boxes(sizes), picture), right)
        self.assertGreater(min(counts), 50)

    def test_list_of_what_is_no_picture(self):
        def right(thing):
            return oracles.right_picture(THREE.sizes, thing)
        picture = listed(THREE, (0, 1, 2))
        check_kinds(self, list_of, (THREE, picture), 1, right, NoPicture, [((0, 0), (0, 0), (0, 1))])


class Turned(unittest.TestCase):

    def test_the_same_list_and_one_turned_wholly_about(self):
        for many in (1, 2, 3, 7, 40):
            order = tuple(range(many))
            boxes = Boxes(((1, 1),) * many)
            self.assertEqual(turned(boxes, order, order), [])
            pairs = [(one, other) for one in range(many) for other in range(one + 1, many)]
            self.assertEqual(turned(boxes, order, order[::-1]), pairs)
            self.assertEqual(turned(boxes, order[::-1], order), pairs)

    def test_some_turned(self):
        self.assertEqual(turned(THREE, (0, 1, 2), (0, 2, 1)), [(1, 2)])
        self.assertEqual(turned(THREE, (2, 1, 0), (1, 2, 0)), [(1, 2)])
        self.assertEqual(turned(THREE, (0, 1, 2), (1, 2, 0)), [(0, 1), (0, 2)])

    def test_all_lists_of_four(self):
        boxes = Boxes(MIXED)
        for one, other in product(permutations(range(4)), repeat=2):
            self.assertEqual(turned(boxes, one, other), list_oracles.turned(one, other))

    def test_a_new_list_each_time(self):
        first = turned(THREE, (0, 1, 2), (0, 2, 1))
        self.assertIs(type(first), list)
        first.append("more")
        self.assertEqual(turned(THREE, (0, 1, 2), (0, 2, 1)), [(1, 2)])
        self.assertIsNot(turned(THREE, (0, 1, 2), (0, 1, 2)), turned(THREE, (0, 1, 2), (0, 1, 2)))


class Broadest(unittest.TestCase):

    def judge(self, sizes, one, other):
        lot = broadest(Boxes(sizes), one, other)
        self.assertTrue(list_oracles.right_turned_lot(one, other, lot), (sizes, one, other, lot))
        widths = [width for width, _ in sizes]
        self.assertEqual(sum(widths[box] for box in lot), list_oracles.breadth(widths, one, other), (one, other, lot))

    def test_the_example(self):
        self.assertEqual(broadest(THREE, (0, 1, 2), (2, 1, 0)), (0, 1, 2))

    def test_the_same_list(self):
        self.assertEqual(broadest(Boxes(MIXED), (0, 1, 2, 3), (0, 1, 2, 3)), (1,))
        self.assertIn(broadest(THREE, (2, 0, 1), (2, 0, 1)), ((0,), (1,), (2,)))
        self.assertEqual(broadest(Boxes(((5, 1),)), (0,), (0,)), (0,))

    def test_a_broad_one_outweighs_several(self):
        boxes = Boxes(((2, 1), (2, 1), (2, 1), (7, 1)))
        self.assertEqual(broadest(boxes, (0, 1, 2, 3), (2, 1, 0, 3)), (3,))
        self.assertEqual(broadest(Boxes(((2, 1), (3, 1), (2, 1), (6, 1))), (0, 1, 2, 3), (2, 1, 0, 3)), (0, 1, 2))

    def test_all_lists_of_few_boxes_against_all_lots(self):
        for sizes in (MIXED, ((1, 1),) * 4, ((5, 1), (1, 1), (2, 1), (4, 1))):
            for one, other in product(permutations(range(4)), repeat=2):
                self.judge(sizes, one, other)
                greatest = max(sum(sizes[box][0] for box in lot) for lot in list_oracles.turned_lots(one, other))
                self.assertEqual(list_oracles.breadth([width for width, _ in sizes], one, other), greatest)

    def test_up_to_40_boxes(self):
        samples = ListSamples(73)
        for turn in range(120):
            sizes = samples.sizes(samples.number(5, 40), (1, 3, 1000)[turn % 3])
            one = samples.order(len(sizes))
            self.judge(sizes, one, samples.order(len(sizes)))
            self.judge(sizes, one, samples.near_order(one, 30))
            self.judge(sizes, one, samples.near_order(one[::-1], 30))


class Stands(unittest.TestCase):

    def judge(self, sizes, width, one, other):
        """All that is said of a pass in a column of this width; whether there is one is returned."""
        boxes = Boxes(sizes)
        right = list_oracles.breadth([size[0] for size in sizes], one, other) <= width
        self.assertIs(can_pass(boxes, width, one, other), right, (sizes, width, one, other))
        found = stand(boxes, width, one, other)
        self.assertIs(found is None, not right)
        if found is not None:
            self.assertTrue(list_oracles.right_stand(sizes, width, one, other, found), (sizes, width, one, other))
            self.assertIs(is_stand(boxes, width, one, other, found), True)
            self.judge_strokes(sizes, width, one, other, found)
        return right

    def judge_strokes(self, sizes, width, one, other, edges):
        """The strokes by a stand are free and within, from the one list to the other one."""
        script = list_oracles.strokes_by(sizes, edges, other)
        begin, end = listed(Boxes(sizes), one), listed(Boxes(sizes), other)
        self.assertTrue(list_oracles.right_column_script(sizes, width, begin, end, script))
        self.assertEqual(led(Boxes(sizes), begin, script), end)

    def test_the_example(self):
        self.assertIs(can_pass(THREE, 2, (0, 1, 2), (2, 1, 0)), False)
        self.assertIsNone(stand(THREE, 2, (0, 1, 2), (2, 1, 0)))

    def test_a_turned_lot_that_just_fits_and_one_less(self):
        for many in (2, 3, 10, 40):
            sizes = ((3, 2),) * many
            order = tuple(range(many))
            self.assertTrue(self.judge(sizes, 3 * many, order, order[::-1]))
            self.assertFalse(self.judge(sizes, 3 * many - 1, order, order[::-1]))
        self.assertTrue(self.judge(((1000, 1),) * 40, 40000, tuple(range(40)), tuple(range(39, -1, -1))))
        self.assertFalse(self.judge(((1000, 1),) * 40, 39999, tuple(range(40)), tuple(range(39, -1, -1))))

    def test_just_the_breadth_of_many_lists(self):
        samples = ListSamples(74)
        for turn in range(100):
            sizes = samples.sizes(samples.number(1, 40), (1, 4, 1000)[turn % 3])
            one = samples.order(len(sizes))
            for other in (samples.order(len(sizes)), samples.near_order(one, 9), one, one[::-1]):
                widths = [width for width, _ in sizes]
                least = list_oracles.breadth(widths, one, other)
                self.assertTrue(self.judge(sizes, least, one, other))
                self.assertTrue(self.judge(sizes, 10 ** 6, one, other))
                if least > max(widths):
                    self.assertFalse(self.judge(sizes, least - 1, one, other))

    def test_all_stands_of_few_boxes(self):
        for sizes in (((1, 1), (2, 1), (1, 2)), ((2, 1), (2, 1), (1, 1)), ((1, 1),) * 3):
            for one, other in product(permutations(range(3)), repeat=2):
                for width in range(2, 6):
                    every = list_oracles.stands(sizes, width, one, other)
                    self.assertIs(self.judge(sizes, width, one, other), bool(every))

    def test_is_stand_gone_through_in_full(self):
        sizes = ((1, 1), (2, 1), (1, 2))
        boxes = Boxes(sizes)
        for one, other in product(permutations(range(3)), repeat=2):
            right = set(list_oracles.stands(sizes, 3, one, other))
            for edges in product(range(-1, 4), repeat=3):
                self.assertIs(is_stand(boxes, 3, one, other, edges), edges in right, (one, other, edges))
                if edges in right:
                    self.judge_strokes(sizes, 3, one, other, edges)

    def test_stands_that_are_none(self):
        one, other = (0, 1, 2), (0, 2, 1)
        self.assertIs(is_stand(THREE, 2, one, other, (0, 0, 1)), True)
        self.assertIs(is_stand(THREE, 2, one, other, (1, 1, 0)), True)
        for thing in (
            (0, 1, 1), (0, 0, 2), (-1, 0, 1), (2, 0, 1), (0, 0, True), (False, 0, 1), (0, 0), (0, 0, 1, 0), [0, 0, 1], (),
            (0, 0, None), ((0, 0, 1),), "001", None, (0, 0, "1"), (0, 0, 10 ** 20 - 1), (0, -(10 ** 20) + 1, 1),
        ):
            self.assertIs(is_stand(THREE, 2, one, other, thing), False, thing)

    def test_is_stand_judges_any_thing(self):
        for one, other, edges in (((0, 1, 2), (0, 2, 1), (0, 0, 1)), ((0, 1, 2), (2, 0, 1), (0, 0, 2))):
            check_judge(self, is_stand, (THREE, 3, one, other),
                        lambda thing: list_oracles.right_stand(THREE.sizes, 3, one, other, thing), edges)


class Wrong(unittest.TestCase):

    def test_what_is_no_list(self):
        def right(thing):
            return list_oracles.right_list(3, thing)
        one, other = (0, 1, 2), (2, 0, 1)
        check_kinds(self, listed, (THREE, one), 1, right, NoList, NO_LISTS)
        for place in (1, 2):
            check_kinds(self, turned, (THREE, one, other), place, right, NoList, NO_LISTS)
            check_kinds(self, broadest, (THREE, one, other), place, right, NoList, NO_LISTS)
        for place in (2, 3):
            check_kinds(self, can_pass, (THREE, 3, one, other), place, right, NoList, NO_LISTS)
            check_kinds(self, stand, (THREE, 3, one, other), place, right, NoList, NO_LISTS)
            check_kinds(self, is_stand, (THREE, 3, one, other, (0, 0, 0)), place, right, NoList, NO_LISTS)

    def test_what_is_no_width(self):
        def right(thing):
            return list_oracles.right_width(THREE.sizes, thing)
        one, other = (0, 1, 2), (2, 0, 1)
        for call, more in ((can_pass, ()), (stand, ()), (is_stand, ((0, 0, 0),))):
            check_kinds(self, call, (THREE, 3, one, other, *more), 1, right, NoWidth, [0, 10 ** 6 + 1, True])
            self.assertIsNone(raised(call, (THREE, 10 ** 6, one, other, *more)))
        self.assertIs(type(raised(can_pass, (Boxes(MIXED), 2, (0, 1, 2, 3), (0, 1, 2, 3)))), NoWidth)

    def test_no_width_comes_first(self):
        one = (0, 1, 2)
        for call, more in ((can_pass, ()), (stand, ()), (is_stand, (None,))):
            check_due(self, call, (THREE, 3, one, one, *more), [
                (1, 0, NoWidth), (1, None, NoWidth), (2, (0, 0, 1), NoList), (3, [0, 1, 2], NoList)])


if __name__ == "__main__":
    unittest.main()
