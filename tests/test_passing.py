"""Passes one behind the other, and figures: 5.2 and 5.3."""

import unittest
from itertools import permutations, product

import list_oracles
from fourstrokes.boxes import Boxes
from fourstrokes.errors import NoFigures, NoLanes, NoList, NoWidth, TooMany
from fourstrokes.lists import can_pass
from fourstrokes.passing import fewest_passes, figures, is_passing, lists_in_pass, passes
from list_oracles import ListSamples
from things import deep_things, strange_things
from wrongs import check_due, check_judge, check_kinds, raised

THREE = Boxes(((1, 1), (1, 1), (1, 1)))
SIZES = ((1, 2), (3, 1), (2, 4), (1, 1), (2, 1))
NO_LISTS = [
    (0, 0, 1), (0, 1), (0, 1, 2, 3), (0, 1, 3), (-1, 0, 1), (1, 2, 3), (False, 1, 2), (0, True, 2), [0, 1, 2], (), None,
    (0, 1, "2"), (0, 1, (2,)), "012", range(3), ((0, 1, 2),),
] + deep_things()


def widths_of(sizes):
    return [width for width, _ in sizes]


class Counted(unittest.TestCase):

    def test_the_example(self):
        self.assertEqual(lists_in_pass(THREE, 2, (0, 1, 2)), 5)

    def test_1_to_5_boxes_in_all_columns(self):
        for many in range(1, 6):
            sizes = SIZES[:many]
            for width in range(max(widths_of(sizes)), sum(widths_of(sizes)) + 2):
                for order in (tuple(range(many)), tuple(range(many))[::-1]):
                    found = lists_in_pass(Boxes(sizes), width, order)
                    self.assertEqual(found, len(list_oracles.lists_in_pass(widths_of(sizes), width, order)))
                    self.assertIs(type(found), int)

    def test_6_and_7_boxes_of_one_width(self):
        for many, counts in ((6, (1, 132, 513, 694, 719, 720)), (7, (1, 429, 2761, 4582, 5003, 5039, 5040))):
            boxes = Boxes(((2, 3),) * many)
            for lanes, right in enumerate(counts, 1):
                self.assertEqual(lists_in_pass(boxes, 2 * lanes, tuple(range(many))), right)
                self.assertEqual(lists_in_pass(boxes, 2 * lanes + 1, tuple(range(many))[::-1]), right)

    def test_a_column_as_broad_as_no_two_are(self):
        self.assertEqual(lists_in_pass(Boxes(((5, 1),) * 7), 9, (6, 5, 4, 3, 2, 1, 0)), 1)
        self.assertEqual(lists_in_pass(Boxes(((5, 1),)), 5, (0,)), 1)

    def test_7_boxes_of_many_widths(self):
        sizes = ((1, 1), (2, 1), (3, 1), (4, 1), (3, 1), (2, 1), (1, 1))
        order = (3, 1, 4, 0, 6, 5, 2)
        found = lists_in_pass(Boxes(sizes), 6, order)
        self.assertEqual(found, len(list_oracles.lists_in_pass(widths_of(sizes), 6, order)))

    def test_8_boxes_and_more(self):
        for many in (8, 9, 40):
            error = raised(lists_in_pass, (Boxes(((1, 1),) * many), 5, tuple(range(many))))
            self.assertIs(type(error), TooMany)
            self.assertEqual(error.most, 7)

    def test_wrong_arguments(self):
        check_kinds(self, lists_in_pass, (THREE, 2, (0, 1, 2)), 1,
                    lambda thing: list_oracles.right_width(THREE.sizes, thing), NoWidth, [0, 10 ** 6 + 1])
        check_kinds(self, lists_in_pass, (THREE, 2, (0, 1, 2)), 2,
                    lambda thing: list_oracles.right_list(3, thing), NoList, NO_LISTS)
        eight = Boxes(((2, 1),) * 8)
        right = tuple(range(8))
        for width, order, error in (
            (2, right, TooMany), (1, right, NoWidth), (2, (0,) * 8, NoList), (1, (0,) * 8, NoWidth), (2, [], NoList),
        ):
            self.assertIs(type(raised(lists_in_pass, (eight, width, order))), error)


class Few(unittest.TestCase):

    def judge(self, sizes, width, one, other):
        """As few passes are told as there need be, and the lists are right; how few is returned."""
        boxes = Boxes(sizes)
        right = list_oracles.fewest_passes(widths_of(sizes), width, one, other)
        self.assertEqual(fewest_passes(boxes, width, one, other), right, (sizes, width, one, other))
        found = passes(boxes, width, one, other)
        if right is None:
            self.assertIsNone(found)
            return None
        self.assertIs(type(found), tuple)
        self.assertEqual((len(found), found[0], found[-1]), (right + 1, one, other))
        for order, following in zip(found, found[1:]):
            self.assertLessEqual(list_oracles.breadth(widths_of(sizes), order, following), width)
            self.assertIs(can_pass(boxes, width, order, following), True)
        return right

    def test_the_example(self):
        self.assertEqual(fewest_passes(THREE, 2, (0, 1, 2), (2, 1, 0)), 2)
        self.assertEqual(self.judge(THREE.sizes, 2, (0, 1, 2), (2, 1, 0)), 2)

    def test_a_list_to_itself(self):
        for many in range(1, 6):
            order = tuple(range(many))[::-1]
            self.assertEqual(passes(Boxes(SIZES[:many]), 9, order, order), (order,))
            self.assertEqual(fewest_passes(Boxes(SIZES[:many]), 9, order, order), 0)

    def test_none_exactly_where_a_broad_pair_is_turned(self):
        for many, width in product(range(2, 5), range(3, 7)):
            sizes = SIZES[:many]
            broad = list_oracles.broad(sizes, width)
            for other in permutations(range(many)):
                barred = any(pair in broad for pair in list_oracles.turned(tuple(range(many)), other))
                self.assertIs(self.judge(sizes, width, tuple(range(many)), other) is None, barred)

    def test_all_lists_of_four(self):
        for sizes, width in ((((1, 1),) * 4, 2), (((1, 1),) * 4, 3), (((1, 1), (2, 1), (1, 1), (2, 1)), 3)):
            for other in permutations(range(4)):
                self.judge(sizes, width, (2, 0, 3, 1), other)

    def test_five_boxes(self):
        samples = ListSamples(81)
        counts = {}
        for turn in range(40):
            sizes = samples.sizes(5) if turn % 2 else ((1, 1),) * 5
            width = samples.number(2 if sizes == ((1, 1),) * 5 else 3, 7)
            found = self.judge(sizes, width, samples.order(5), samples.order(5))
            counts[found] = counts.get(found, 0) + 1
        self.assertEqual(set(counts) >= {None, 1, 2}, True, counts)
        self.assertEqual(self.judge(((1, 1),) * 5, 2, (0, 1, 2, 3, 4), (4, 3, 2, 1, 0)), 3)

    def test_6_boxes_and_more(self):
        for call in (fewest_passes, passes):
            for many in (6, 7, 40):
                order = tuple(range(many))
                error = raised(call, (Boxes(((1, 1),) * many), 5, order, order))
                self.assertIs(type(error), TooMany)
                self.assertEqual(error.most, 5)

    def test_wrong_arguments(self):
        one, other = (0, 1, 2), (2, 1, 0)
        for call in (fewest_passes, passes):
            check_kinds(self, call, (THREE, 2, one, other), 1,
                        lambda thing: list_oracles.right_width(THREE.sizes, thing), NoWidth, [0, 10 ** 6 + 1])
            for place in (2, 3):
                check_kinds(self, call, (THREE, 2, one, other), place,
                            lambda thing: list_oracles.right_list(3, thing), NoList, NO_LISTS)
            check_due(self, call, (THREE, 2, one, other), [
                (1, 0, NoWidth), (2, None, NoList), (3, (0, 1, 1), NoList)])
            six = tuple(range(6))
            for width, order, another, error in (
                (2, six, six, TooMany), (0, six, six, NoWidth), (2, six, six[:5], NoList), (2, None, six, NoList),
                (0, None, None, NoWidth),
            ):
                self.assertIs(type(raised(call, (Boxes(((1, 1),) * 6), width, order, another))), error)

    def test_equal_calls_equal_answers(self):
        self.assertEqual(
            passes(THREE, 2, (0, 1, 2), (2, 1, 0)), passes(Boxes(((1, 1),) * 3), 2, (0, 1, 2), (2, 1, 0)))


class Passing(unittest.TestCase):

    def test_one_list_alone(self):
        self.assertIs(is_passing(1, ((0,),)), True)
        self.assertIs(is_passing(1, ((2, 0, 1),)), True)
        self.assertIs(is_passing(40, (tuple(range(40)),)), True)

    def test_a_turned_lot_of_more_than_lanes(self):
        for many in (2, 3, 7, 40):
            order = tuple(range(many))
            for lanes in range(1, 41):
                self.assertIs(is_passing(lanes, (order, order[::-1])), many <= lanes)
                self.assertIs(is_passing(lanes, (order, order, order[::-1], order[::-1], order)), many <= lanes)

    def test_told_lists(self):
        self.assertIs(is_passing(2, ((0, 1, 2), (2, 0, 1), (2, 1, 0))), True)
        self.assertIs(is_passing(2, ((0, 1, 2), (2, 0, 1), (0, 2, 1), (1, 0, 2))), True)
        self.assertIs(is_passing(2, ((0, 1, 2), (2, 0, 1), (2, 1, 0), (0, 1, 2))), False)
        self.assertIs(is_passing(2, ((0, 1, 2), (2, 0, 1), (1, 0, 2))), False)
        self.assertIs(is_passing(1, ((0, 1, 2), (0, 2, 1))), False)
        self.assertIs(is_passing(1, ((0, 1, 2),) * 20), True)

    def test_all_pairs_of_lists_of_four(self):
        for one, other in product(permutations(range(4)), repeat=2):
            for lanes in range(1, 5):
                self.assertIs(is_passing(lanes, (one, other)), list_oracles.longest_turned(one, other) <= lanes)

    def test_many_lists(self):
        samples = ListSamples(82)
        counts = [0, 0]
        for _ in range(200):
            order = samples.order(samples.number(2, 40))
            told = [order]
            for _ in range(samples.number(1, 5)):
                told.append(samples.near_order(told[-1], 12))
            lanes = samples.number(1, 5)
            right = list_oracles.right_passing(lanes, tuple(told))
            counts[right] += 1
            self.assertIs(is_passing(lanes, tuple(told)), right)
        self.assertGreater(min(counts), 30)

    def test_what_is_no_passing(self):
        for thing in (
            (), [], [(0, 1, 2)], ((0, 1, 2), (0, 1)), ((0, 1), (0, 1, 2)), ((0, 1, 2), [0, 1, 2]), ([0, 1, 2],), ((),),
            ((0, 1, 1),), ((0, 1, 3),), ((0, True),), ((0, 1), None), (None, (0, 1)), None, (0, 1, 2), ((1, 2),),
            (tuple(range(41)),), ((), ()), ((0, 1), (0, 1), (1, 1)), {(0, 1): 0}, "01", (((0, 1),),),
            ((0, 1), (False, True)),
        ):
            self.assertIs(is_passing(40, thing), False, thing)

    def test_it_judges_any_thing(self):
        for lanes, right in ((2, ((0, 1, 2), (2, 0, 1))), (1, ((0, 1),)), (40, ((0, 1), (1, 0)))):
            check_judge(self, is_passing, (lanes,), lambda thing: list_oracles.right_passing(lanes, thing), right)

    def test_what_are_no_lanes(self):
        def right(thing):
            return type(thing) is int and 1 <= thing <= 40
        check_kinds(self, is_passing, (2, ((0, 1),)), 0, right, NoLanes, [0, -1, 41, 10 ** 19])
        for thing in strange_things():
            self.assertIs(type(raised(is_passing, (0, thing))), NoLanes)
            self.assertIs(type(raised(is_passing, (41, thing))), NoLanes)
            self.assertIs(type(raised(is_passing, (True, thing))), NoLanes)


class Figures(unittest.TestCase):

    def judge(self, lanes, one, other):
        found = figures(lanes, one, other)
        self.assertIs(type(found), tuple)
        self.assertEqual((found[0], found[-1]), (one, other))
        self.assertEqual(len(found) - 1, list_oracles.least_power(lanes, len(one)))
        self.assertTrue(list_oracles.right_passing(lanes, found), (lanes, one, other, found))
        self.assertIs(is_passing(lanes, found), True)

    def test_one_thing(self):
        for lanes in (1, 2, 40):
            self.assertEqual(figures(lanes, (0,), (0,)), ((0,),))

    def test_one_lane_and_more_things(self):
        for many in (2, 3, 40):
            order = tuple(range(many))
            for other in (order, order[::-1]):
                self.assertIs(type(raised(figures, (1, order, other))), NoFigures)

    def test_all_numbers_of_things_and_lanes(self):
        samples = ListSamples(83)
        for many, lanes in product(range(1, 41), range(1, 41)):
            if many > 1 and lanes > 1:
                self.judge(lanes, samples.order(many), samples.order(many))

    def test_just_a_power_and_one_more(self):
        for lanes, many in ((2, 2), (2, 4), (2, 8), (2, 16), (2, 32), (3, 3), (3, 9), (3, 27), (4, 16), (5, 25), (6, 36)):
            for order in (tuple(range(many)), tuple(range(many + 1))):
                self.judge(lanes, order, order[::-1])
                self.judge(lanes, order, order)
                self.judge(lanes, order[::-1], order)

    def test_told_numbers(self):
        for lanes, many, right in ((2, 4, 2), (2, 5, 3), (2, 40, 6), (40, 40, 1), (39, 40, 2), (7, 40, 2), (6, 37, 3)):
            self.assertEqual(len(figures(lanes, tuple(range(many)), tuple(range(many))[::-1])) - 1, right)

    def test_some_two_lists_need_as_many(self):
        order = tuple(range(5))
        fewest = [list_oracles.fewest_passes([1] * 5, 2, order, other) for other in permutations(order)]
        self.assertEqual(max(fewest), 3)

    def test_all_lists_of_four(self):
        for one, other in product(permutations(range(4)), repeat=2):
            self.judge(2, one, other)

    def test_wrong_arguments(self):
        one, other = (0, 1, 2), (2, 1, 0)
        check_kinds(self, figures, (2, one, other), 0,
                    lambda thing: type(thing) is int and 1 <= thing <= 40, NoLanes, [0, -1, 41, 10 ** 19])
        check_kinds(self, figures, (2, one, other), 1, list_oracles.right_order, NoList, NO_LISTS)
        check_kinds(self, figures, (2, one, other), 2,
                    lambda thing: list_oracles.right_list(3, thing), NoList, NO_LISTS)

    def test_lists_of_unlike_length_and_too_long_ones(self):
        for one, other in (
            ((0, 1), (0, 1, 2)), ((0, 1, 2), (0, 1)), ((0,), ()), ((), (0,)), ((), ()), (tuple(range(41)),) * 2,
            (tuple(range(40)), tuple(range(41))), (tuple(range(41)), tuple(range(40))),
        ):
            self.assertIs(type(raised(figures, (2, one, other))), NoList)

    def test_the_errors_in_their_order(self):
        check_due(self, figures, (2, (0, 1), (1, 0)), [
            (0, 0, NoLanes), (0, None, NoLanes), (1, None, NoList), (2, (0, 1, 2), NoList), (0, 1, NoFigures)])


if __name__ == "__main__":
    unittest.main()
