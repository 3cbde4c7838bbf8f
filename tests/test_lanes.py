"""Lanes for ever: 5.5."""

import unittest
from itertools import combinations, permutations, product

import list_oracles
from fourstrokes.errors import NoLists
from fourstrokes.lanes import crowd, forever
from list_oracles import ListSamples
from things import deep_things, strange_things
from wrongs import raised

UP = (0, 1, 2)
DOWN = (2, 1, 0)


class Lanes(unittest.TestCase):

    def judge(self, lists):
        """Lanes and a crowd are right, as many of the one as of the other, so that neither can be better."""
        told = list(lists)
        lanes = forever(lists)
        self.assertTrue(list_oracles.right_forever(lists, lanes), (lists, lanes))
        lot = crowd(lists)
        self.assertTrue(list_oracles.right_crowd(lists, lot), (lists, lot))
        self.assertEqual(len(set(lanes)), len(lot), lists)
        self.assertEqual(list(lists), told)
        return len(lot)

    def test_the_example(self):
        self.assertEqual(crowd([(0, 1, 2), (1, 0, 2)]), (0, 1))
        self.assertEqual(self.judge([(0, 1, 2), (1, 0, 2)]), 2)

    def test_one_list(self):
        for many in (1, 2, 40):
            order = tuple(range(many))[::-1]
            self.assertEqual(forever([order]), (0,) * many)
            self.assertEqual(len(crowd([order])), 1)
            self.judge([order])

    def test_the_same_list_again_and_again(self):
        self.assertEqual(forever([DOWN] * 8), (0, 0, 0))
        self.assertEqual(self.judge((UP, DOWN, UP, DOWN)), 3)
        self.assertEqual(self.judge((UP, UP, (0, 2, 1))), 2)

    def test_lists_turned_wholly_about(self):
        for many in (1, 2, 3, 40):
            order = tuple(range(many))
            self.assertEqual(self.judge([order, order[::-1]]), many)
            self.assertEqual(crowd([order, order[::-1]]), order)
            self.assertEqual(sorted(forever((order, order[::-1]))), list(range(many)))

    def test_a_list_and_a_tuple(self):
        samples = ListSamples(101)
        lists = [samples.order(9) for _ in range(3)]
        self.assertEqual(forever(lists), forever(tuple(lists)))
        self.assertEqual(crowd(lists), crowd(tuple(lists)))
        self.assertIs(type(forever(lists)), tuple)
        self.assertIs(type(crowd(lists)), tuple)

    def test_few_things_gone_through_in_full(self):
        for other, third in product(permutations(range(4)), repeat=2):
            lists = [(1, 0, 3, 2), other, third]
            every = [lot for size in range(5) for lot in combinations(range(4), size)]
            greatest = max(len(lot) for lot in every if list_oracles.right_crowd(lists, lot))
            lanes = [item for item in product(range(4), repeat=4) if list_oracles.right_forever(lists, item)]
            self.assertEqual(self.judge(lists), greatest)
            self.assertEqual(min(len(set(item)) for item in lanes), greatest)

    def test_all_pairs_of_lists_of_five(self):
        for other in permutations(range(5)):
            self.judge([(0, 1, 2, 3, 4), other])

    def test_up_to_40_things_and_8_lists(self):
        samples = ListSamples(102)
        for turn in range(120):
            lists = [samples.order(samples.number(1, 40))]
            for _ in range(samples.number(0, 7)):
                if turn % 3 == 0:
                    lists.append(samples.order(len(lists[0])))
                else:
                    lists.append(samples.near_order(lists[samples.number(0, len(lists) - 1)], 10))
            self.judge(lists if turn % 2 else tuple(lists))


class Wrong(unittest.TestCase):

    def index_of(self, lists):
        """The index of the NoLists that both functions raise."""
        errors = [raised(call, (lists,)) for call in (forever, crowd)]
        for error in errors:
            self.assertIs(type(error), NoLists, lists)
        self.assertEqual(errors[0].index, errors[1].index)
        self.assertIs(type(errors[0].index), int)
        return errors[0].index

    def test_none_and_nine(self):
        for lists in ([], (), [UP] * 9, (UP,) * 9, [UP] * 500, [None] * 9):
            self.assertEqual(self.index_of(lists), -1)

    def test_what_is_no_list_or_tuple(self):
        for thing in strange_things():
            if type(thing) not in (list, tuple):
                self.assertEqual(self.index_of(thing), -1)
        for thing in ({UP: DOWN}, "012", iter([UP]), {0: UP}.values(), b"012", range(3)):
            self.assertEqual(self.index_of(thing), -1)

    def test_the_first_that_is_no_list(self):
        for wrap in (list, tuple):
            self.assertEqual(self.index_of(wrap([[0, 1, 2], UP])), 0)
            self.assertEqual(self.index_of(wrap([UP, [0, 1, 2], None])), 1)
            self.assertEqual(self.index_of(wrap([UP] * 7 + [(0, 1, 1)])), 7)
            self.assertEqual(self.index_of(wrap([None])), 0)
            self.assertEqual(self.index_of(wrap([()])), 0)
            self.assertEqual(self.index_of(wrap([tuple(range(41))])), 0)
            self.assertEqual(self.index_of(wrap([UP, (0, 1, 3), (0, 0, 1)])), 1)

    def test_lists_of_another_many_than_the_first(self):
        self.assertEqual(self.index_of([UP, (0, 1)]), 1)
        self.assertEqual(self.index_of([UP, DOWN, (0, 1, 2, 3), None]), 2)
        self.assertEqual(self.index_of([(0, 1), UP, UP]), 1)
        self.assertEqual(self.index_of((tuple(range(40)), tuple(range(41)))), 1)

    def test_items_of_every_kind(self):
        for thing in strange_things() + deep_things() + [(0, True, 2), (False, 1, 2), (0, 1, "2"), (0, 1, 2.0), (2, 1)]:
            if not list_oracles.right_list(3, thing):
                self.assertEqual(self.index_of([UP, DOWN, thing]), 2)
            if not list_oracles.right_order(thing):
                self.assertEqual(self.index_of((thing, UP)), 0)

    def test_lists_of_strange_things(self):
        for thing in strange_things():
            if type(thing) in (list, tuple):
                if 1 <= len(thing) <= 8 and all(list_oracles.right_order(item) for item in thing):
                    continue
                self.assertIn(self.index_of(thing), (-1, 0, 1))


if __name__ == "__main__":
    unittest.main()
