"""Fading and partings: 5.4."""

import unittest
from itertools import permutations, product

import list_oracles
from fourstrokes.errors import NoLanes, NoList, NoParting
from fourstrokes.fading import excess, fades, fewest_fades, is_fades, is_parting, parting
from list_oracles import ListSamples
from things import deep_things
from wrongs import check_due, check_judge, check_kinds, raised

UP = (0, 1, 2)
DOWN = (2, 1, 0)
NO_LISTS = [
    (0, 0, 1), (0, 1), (0, 1, 2, 3), (0, 1, 3), (-1, 0, 1), (1, 2, 3), (False, 1, 2), (0, True, 2), [0, 1, 2], (), None,
    (0, 1, "2"), (0, 1, (2,)), "012", range(3), ((0, 1, 2),), tuple(range(41)),
] + deep_things()


def is_lanes(thing):
    return type(thing) is int and 1 <= thing <= 40


class Judging(unittest.TestCase):

    def judge(self, lanes, one, other):
        """All that is said of two lists is right; how few must fade is returned."""
        right = list_oracles.fewest_fades(lanes, one, other)
        fewest = fewest_fades(lanes, one, other)
        self.assertEqual(fewest, right, (lanes, one, other))
        self.assertIs(type(fewest), int)
        told = fades(lanes, one, other)
        self.assertTrue(list_oracles.right_fades(lanes, one, other, told), (lanes, one, other, told))
        self.assertIs(is_fades(lanes, one, other, told), True)
        self.assertEqual(told.count(None), right)
        lots = parting(lanes, one, other)
        self.assertTrue(list_oracles.right_parting(one, other, lots), (lanes, one, other, lots))
        self.assertIs(is_parting(one, other, lots), True)
        self.assertEqual(list_oracles.excess(lanes, lots), right, (lanes, one, other, lots))
        self.assertEqual(excess(lanes, one, other, lots), right)
        return right


class Few(Judging):

    def test_the_example(self):
        self.assertEqual(fewest_fades(2, UP, DOWN), 1)
        self.assertEqual(parting(2, UP, DOWN), (UP,))
        self.assertEqual(self.judge(2, UP, DOWN), 1)

    def test_one_thing(self):
        for lanes in (1, 2, 40):
            self.assertEqual(self.judge(lanes, (0,), (0,)), 0)
            self.assertEqual(parting(lanes, (0,), (0,)), ((0,),))

    def test_lists_alike_and_turned_wholly_about(self):
        for many, lanes in product((1, 2, 3, 7, 20, 39, 40), (1, 2, 3, 7, 20, 39, 40)):
            order = tuple(range(many))
            self.assertEqual(self.judge(lanes, order, order), 0)
            self.assertEqual(self.judge(lanes, order, order[::-1]), max(0, many - lanes))

    def test_few_things_gone_through_in_full(self):
        for many in (1, 2, 3, 4):
            for one, other in product(permutations(range(many)), repeat=2):
                for lanes in range(1, 4):
                    every = product((None, *range(lanes)), repeat=many)
                    least = min(item.count(None) for item in every
                                if list_oracles.right_fades(lanes, one, other, item))
                    greatest = max(list_oracles.excess(lanes, lots) for lots in list_oracles.partings(one, other))
                    self.assertEqual((least, greatest), (self.judge(lanes, one, other),) * 2)

    def test_all_lists_of_five_and_six(self):
        for many in (5, 6):
            for other in permutations(range(many)):
                for lanes in (1, 2, 3):
                    self.judge(lanes, tuple(range(many)), other)

    def test_two_lanes_of_which_none_is_as_long_as_one_alone(self):
        # Of five that stand in one order, the other four leave but two; four and four leave just one.
        places = (1, 3, 6, 8, 4, 0, 2, 5, 7)
        other = tuple(sorted(range(9), key=lambda thing: places[thing]))
        for lanes, right in ((1, 4), (2, 1), (3, 0)):
            self.assertEqual(self.judge(lanes, tuple(range(9)), other), right)
            self.assertEqual(self.judge(lanes, other, tuple(range(9))), right)

    def test_up_to_40_things_and_lanes(self):
        samples = ListSamples(91)
        for turn in range(150):
            one = samples.order(samples.number(1, 40))
            other = samples.order(len(one))
            if turn % 3 == 1:
                other = samples.near_order(one, 60)
            if turn % 3 == 2:
                other = samples.near_order(one[::-1], 60)
            for lanes in (1, 2, samples.number(3, 8), samples.number(1, 40)):
                self.judge(lanes, one, other)

    def test_blocks_turned_about(self):
        for size in (2, 3, 5, 8):
            other = tuple(size * block + size - 1 - item for block in range(40 // size) for item in range(size))
            for lanes in range(1, 9):
                right = 40 // size * max(0, size - lanes)
                self.assertEqual(self.judge(lanes, tuple(range(len(other))), other), right)

    def test_equal_calls_equal_answers(self):
        samples = ListSamples(92)
        one, other = samples.order(20), samples.order(20)
        for call in (fades, parting):
            self.assertEqual(call(3, one, other), call(3, tuple(list(one)), tuple(list(other))))


class IsFades(unittest.TestCase):

    def test_ones_that_let_more_fade_than_need(self):
        for thing in ((None, None, None), (0, None, None), (None, 1, 0), (0, 1, None), (1, 0, None)):
            self.assertIs(is_fades(2, UP, DOWN, thing), True, thing)
        self.assertIs(is_fades(2, UP, UP, (0, 0, 0)), True)
        self.assertIs(is_fades(2, UP, UP, (1, None, 1)), True)

    def test_a_lane_beyond_the_lanes(self):
        self.assertIs(is_fades(2, UP, UP, (0, 1, 2)), False)
        self.assertIs(is_fades(3, UP, UP, (0, 1, 2)), True)
        self.assertIs(is_fades(3, UP, UP, (0, -1, 2)), False)

    def test_two_of_one_lane_turned(self):
        self.assertIs(is_fades(2, UP, DOWN, (0, 1, 1)), False)
        self.assertIs(is_fades(3, UP, (0, 2, 1), (0, 1, 1)), False)
        self.assertIs(is_fades(3, UP, (0, 2, 1), (1, 1, 0)), True)

    def test_other_kinds_and_lengths(self):
        for thing in (
            (0, 1), (0, 1, None, None), (0, False, None), (True, 0, None), (0, 1, "None"), [0, 1, None], None, (),
            (0, 1, (None,)), ((0, 1, None),), {0: 0, 1: 1, 2: None}, "01", (0, 1, []), (0, 1, 10 ** 20 - 1),
        ):
            self.assertIs(is_fades(2, UP, DOWN, thing), False, thing)

    def test_all_small_things(self):
        every = list(product((None, -1, 0, 1, 2), repeat=3))
        for other in permutations(range(3)):
            for lanes in (1, 2, 3):
                for thing in every:
                    right = list_oracles.right_fades(lanes, UP, other, thing)
                    self.assertIs(is_fades(lanes, UP, other, thing), right, (lanes, other, thing))

    def test_it_judges_any_thing(self):
        for lanes, other, right in ((2, DOWN, (0, 1, None)), (1, UP, (0, 0, 0)), (40, (1, 0, 2), (None, 39, 39))):
            check_judge(self, is_fades, (lanes, UP, other),
                        lambda thing: list_oracles.right_fades(lanes, UP, other, thing), right)


class IsParting(unittest.TestCase):

    def test_told_ones(self):
        for thing in (((0, 1, 2),), ((0,), (1,), (2,)), ((0, 1), (2,)), ((0,), (1, 2)), ((0, 2), (1,))):
            self.assertIs(is_parting(UP, DOWN, thing), True, thing)
        self.assertIs(is_parting(UP, (0, 2, 1), ((0,), (1, 2))), True)

    def test_what_is_none(self):
        for thing in (
            ((0, 2, 1),), ((0, 1), (1, 2)), ((0, 1),), ((), (0, 1, 2)), ((0, 1, 2), ()), ((1,), (0, 2)), ((2,), (0, 1)),
            [(0, 1, 2)], ([0, 1, 2],), ((0, 1), [2]), ((0, True, 2),), ((False, 1, 2),), ((0, 1), (2,), (2,)), (), None,
            ((0, 1, 2, 3),), ((-1, 0, 1, 2),), ((0, 1, 2), (3,)), (0, 1, 2), ((0, 1), 2), ((0, 0, 1, 2),), "012",
            ((0, 1), (2, 2)), {(0, 1, 2): 0}, ((0,), (1,), ("2",)), (((0, 1, 2),),), ((1, 2), (0,)), ((0,), (0, 1, 2)),
        ):
            self.assertIs(is_parting(UP, DOWN, thing), False, thing)
            self.assertIs(type(raised(excess, (2, UP, DOWN, thing))), NoParting, thing)

    def test_a_lot_that_is_not_turned(self):
        for thing in (((0, 1, 2),), ((0, 1), (2,)), ((0, 2), (1,))):
            self.assertIs(is_parting(UP, (0, 2, 1), thing), False, thing)
            self.assertIs(is_parting(UP, UP, thing), False, thing)

    def test_all_partings_of_few_things(self):
        one = (1, 3, 0, 2)
        every = [()]
        for lots in list_oracles.partings(tuple(range(4)), (3, 2, 1, 0)):
            every += permutations(lots)
        for other in permutations(range(4)):
            for thing in every:
                self.assertIs(is_parting(one, other, thing), list_oracles.right_parting(one, other, thing))

    def test_it_judges_any_thing(self):
        for other, right in ((DOWN, ((0, 1, 2),)), ((1, 0, 2), ((0, 1), (2,))), (UP, ((0,), (1,), (2,)))):
            check_judge(self, is_parting, (UP, other), lambda thing: list_oracles.right_parting(UP, other, thing), right)

    def test_excess(self):
        order = tuple(range(7))
        for lots in (((0, 1, 2, 3, 4, 5, 6),), ((0, 1, 2), (3, 4, 5, 6)), ((0, 6), (1, 2, 4), (3, 5))):
            for lanes in (1, 2, 3, 4, 7, 40):
                self.assertEqual(excess(lanes, order, order[::-1], lots), list_oracles.excess(lanes, lots))
        self.assertEqual(excess(2, order, order[::-1], ((0, 6), (1, 2, 4), (3, 5))), 1)
        self.assertEqual(excess(3, order, order[::-1], ((0, 6), (1, 2, 4), (3, 5))), 0)

    def test_no_parting_has_more_excess_than_things_fade(self):
        for other in permutations(range(5)):
            for lots in list_oracles.partings(tuple(range(5)), other):
                for lanes in (1, 2, 3):
                    self.assertLessEqual(
                        excess(lanes, tuple(range(5)), other, lots), fewest_fades(lanes, tuple(range(5)), other))


class Wrong(unittest.TestCase):

    def test_what_are_no_lanes(self):
        calls = [(fewest_fades, ()), (fades, ()), (parting, ()), (is_fades, ((0, 1, None),)), (excess, ((UP,),))]
        for call, more in calls:
            check_kinds(self, call, (2, UP, DOWN, *more), 0, is_lanes, NoLanes, [0, -1, 41, 10 ** 19, True])
            for lanes in (1, 40):
                self.assertIsNone(raised(call, (lanes, UP, DOWN, *more)))

    def test_what_are_no_lists(self):
        calls = [(fewest_fades, ()), (fades, ()), (parting, ()), (is_fades, ((0, 1, None),)), (excess, ((UP,),))]
        for call, more in calls:
            check_kinds(self, call, (2, UP, DOWN, *more), 1, list_oracles.right_order, NoList, NO_LISTS)
            check_kinds(self, call, (2, UP, DOWN, *more), 2,
                        lambda thing: list_oracles.right_list(3, thing), NoList, NO_LISTS)
            for one, other in (((0, 1), UP), (UP, (0, 1)), ((), ()), (tuple(range(41)),) * 2):
                self.assertIs(type(raised(call, (2, one, other, *more))), NoList)
        check_kinds(self, is_parting, (UP, DOWN, (UP,)), 0, list_oracles.right_order, NoList, NO_LISTS)
        check_kinds(self, is_parting, (UP, DOWN, (UP,)), 1,
                    lambda thing: list_oracles.right_list(3, thing), NoList, NO_LISTS)

    def test_what_is_no_parting(self):
        check_kinds(self, excess, (2, UP, DOWN, ((0, 1), (2,))), 3,
                    lambda thing: list_oracles.right_parting(UP, DOWN, thing), NoParting)

    def test_the_errors_in_their_order(self):
        for call, more in ((fewest_fades, ()), (fades, ()), (parting, ()), (is_fades, (None,))):
            check_due(self, call, (2, UP, DOWN, *more), [
                (0, 0, NoLanes), (0, None, NoLanes), (1, None, NoList), (2, (0, 1), NoList)])
        check_due(self, excess, (2, UP, DOWN, (UP,)), [
            (0, 41, NoLanes), (1, (0, 1, 1), NoList), (2, None, NoList), (3, (UP, UP), NoParting), (3, None, NoParting)])
        check_due(self, is_parting, (UP, DOWN, None), [(0, None, NoList), (1, (0, 1), NoList)])


if __name__ == "__main__":
    unittest.main()
