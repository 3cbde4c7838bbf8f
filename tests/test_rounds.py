"""A column that comes round: 6.1."""

import unittest
from itertools import permutations, product

import list_oracles
from fourstrokes.boxes import Boxes
from fourstrokes.errors import NoList, NoStep, NoWidth, TooMany
from fourstrokes.rounds import is_knot, is_rounds, knot, round_steps, rounds, stepped
from list_oracles import ListSamples
from things import deep_things, strange_things
from wrongs import check_due, check_judge, check_kinds, raised

THREE = Boxes(((1, 1), (1, 1), (1, 1)))
FOUR = Boxes(((1, 2), (3, 1), (2, 4), (1, 1)))
FROM_LISTS = (rounds, knot, round_steps)
NO_LISTS = [
    (0, 0, 1), (0, 1), (0, 1, 2, 3), (0, 1, 3), (-1, 0, 1), (1, 2, 3), (False, 1, 2), (0, True, 2), [0, 1, 2], (), None,
    (0, 1, "2"), (0, 1, (2,)), "012", range(3), ((0, 1, 2),),
] + deep_things()


def widths_of(boxes):
    return [width for width, _ in boxes.sizes]


def of_widths(*widths):
    return Boxes(tuple((width, 1) for width in widths))


class Steps(unittest.TestCase):

    def number_of(self, boxes, width, order, steps):
        """The number of the NoStep that these steps raise."""
        error = raised(stepped, (boxes, width, order, steps))
        self.assertIs(type(error), NoStep, steps)
        self.assertIs(type(error.number), int)
        return error.number

    def test_each_kind(self):
        self.assertEqual(stepped(FOUR, 9, (2, 0, 3, 1), [("over",)]), (0, 3, 1, 2))
        self.assertEqual(stepped(FOUR, 9, (2, 0, 3, 1), [("back",)]), (1, 2, 0, 3))
        self.assertEqual(stepped(FOUR, 9, (2, 0, 3, 1), [("past", 0)]), (0, 2, 3, 1))
        self.assertEqual(stepped(FOUR, 9, (2, 0, 3, 1), [("past", 1)]), (2, 3, 0, 1))
        self.assertEqual(stepped(FOUR, 9, (2, 0, 3, 1), [("past", 2)]), (2, 0, 1, 3))

    def test_no_steps_at_all(self):
        for steps in ([], ()):
            self.assertEqual(stepped(FOUR, 3, (2, 0, 3, 1), steps), (2, 0, 3, 1))

    def test_steps_of_a_list_and_of_a_tuple(self):
        steps = [("past", 0), ("over",), ("past", 2), ("back",), ("back",)]
        found = stepped(FOUR, 9, (0, 1, 2, 3), steps)
        self.assertEqual(found, list_oracles.behind_steps(widths_of(FOUR), 9, (0, 1, 2, 3), steps))
        self.assertEqual(stepped(FOUR, 9, (0, 1, 2, 3), tuple(steps)), found)
        self.assertIs(type(found), tuple)
        self.assertEqual(steps, [("past", 0), ("over",), ("past", 2), ("back",), ("back",)])

    def test_over_and_back_with_one_box(self):
        for steps in ([("over",)], [("back",)], [("over",), ("back",), ("over",)]):
            self.assertEqual(stepped(of_widths(5), 5, (0,), steps), (0,))
        for k in (-1, 0, 1):
            self.assertEqual(self.number_of(of_widths(5), 5, (0,), [("over",), ("past", k)]), 1)

    def test_past_at_the_ends_and_beyond(self):
        for k in range(-3, 6):
            steps = [("past", k)]
            if 0 <= k <= 2:
                right = list_oracles.behind_steps(widths_of(FOUR), 9, (0, 1, 2, 3), steps)
                self.assertEqual(stepped(FOUR, 9, (0, 1, 2, 3), steps), right)
            else:
                self.assertEqual(self.number_of(FOUR, 9, (0, 1, 2, 3), steps), 0)

    def test_a_broad_pair_that_should_pass(self):
        self.assertEqual(stepped(FOUR, 5, (0, 1, 2, 3), [("past", 1)]), (0, 2, 1, 3))
        self.assertEqual(self.number_of(FOUR, 4, (0, 1, 2, 3), [("past", 1)]), 0)
        self.assertEqual(self.number_of(FOUR, 4, (0, 2, 1, 3), [("past", 1)]), 0)
        self.assertEqual(self.number_of(FOUR, 4, (0, 1, 2, 3), [("past", 0), ("over",), ("over",), ("past", 3)]), 3)
        self.assertEqual(self.number_of(FOUR, 4, (0, 1, 2, 3), [("past", 0), ("past", 0), ("past", 1), None]), 2)

    def test_the_first_thing_that_is_no_step(self):
        for thing in strange_things() + deep_things() + [
            ("past",), ("past", 0, 0), ("past", True), ("past", False), ("past", "0"), ("past", None), ("past", (0,)),
            ("over", 0), ("back", 0), ("over", None), ("Over",), ("",), (), ["over"], ["past", 0], "over", "back", "past",
            ("past", 10 ** 20 - 1), ("past", -1), (b"over",), (("over",),), ("overback",), ("ove",), (0,), ("past", b""),
        ]:
            self.assertEqual(self.number_of(FOUR, 9, (0, 1, 2, 3), [thing]), 0)
            self.assertEqual(self.number_of(FOUR, 9, (0, 1, 2, 3), (("over",), ("past", 1), thing, None)), 2)

    def test_what_is_no_list_or_tuple(self):
        for thing in strange_things() + [{("over",): 0}, iter([("over",)]), "over", {0: ("over",)}.values()]:
            if type(thing) not in (list, tuple):
                self.assertEqual(self.number_of(FOUR, 9, (0, 1, 2, 3), thing), -1)
            elif thing:
                self.assertEqual(self.number_of(FOUR, 9, (0, 1, 2, 3), thing), 0)

    def test_many_rows_of_steps(self):
        samples = ListSamples(111)
        counts = [0, 0]
        for _ in range(400):
            boxes = Boxes(samples.sizes(samples.number(1, 7)))
            width = samples.number(3, 6)
            order = samples.order(boxes.many)
            every = list_oracles.steps(boxes.many) * 5 + [("past", boxes.many - 1), ("past", -1)]
            steps = samples.source.choices(every, k=samples.number(1, 12))
            right = list_oracles.behind_steps(widths_of(boxes), width, order, steps)
            counts[type(right) is int] += 1
            if type(right) is int:
                self.assertEqual(self.number_of(boxes, width, order, steps), right)
            else:
                self.assertEqual(stepped(boxes, width, order, steps), right)
        self.assertGreater(min(counts), 50)

    def test_very_many_steps(self):
        order = tuple(range(40))
        self.assertEqual(stepped(of_widths(*[1] * 40), 1, order, [("over",)] * 9001), order[1:] + order[:1])

    def test_the_errors_in_their_order(self):
        check_due(self, stepped, (THREE, 2, (0, 1, 2), [("past", 0)]), [
            (1, 0, NoWidth), (1, True, NoWidth), (2, (0, 1), NoList), (2, None, NoList), (3, None, NoStep),
            (3, [("past", 2)], NoStep)])
        check_kinds(self, stepped, (THREE, 2, (0, 1, 2), []), 1,
                    lambda thing: list_oracles.right_width(THREE.sizes, thing), NoWidth, [0, 10 ** 6 + 1])
        check_kinds(self, stepped, (THREE, 2, (0, 1, 2), []), 2,
                    lambda thing: list_oracles.right_list(3, thing), NoList, NO_LISTS)


class Rounds(unittest.TestCase):

    def judge(self, boxes, width, one, other):
        """All that is said of the way from one to other is right; whether there is one is returned."""
        widths = widths_of(boxes)
        found = rounds(boxes, width, one, other)
        held = knot(boxes, width, one, other)
        self.assertIs(found is None, held is not None, (widths, width, one, other))
        if found is None:
            self.assertTrue(list_oracles.right_knot(widths, width, one, other, held), (widths, width, one, other, held))
            self.assertIs(is_knot(boxes, width, one, other, held), True)
        else:
            self.assertTrue(list_oracles.right_rounds(widths, width, one, other, found), (widths, width, one, other))
            self.assertIs(is_rounds(boxes, width, one, other, found), True)
            for piece in list_oracles.pieces(widths, width):
                self.assertEqual(min(found[box] for box in piece), 0)
        if boxes.many <= 12:
            self.judge_steps(boxes, width, one, other, found)
        return found is not None

    def judge_steps(self, boxes, width, one, other, found):
        steps = round_steps(boxes, width, one, other)
        self.assertIs(steps is None, found is None)
        if steps is not None:
            self.assertIs(type(steps), tuple)
            behind = list_oracles.behind_steps(widths_of(boxes), width, one, steps)
            self.assertEqual(behind, other, (boxes.sizes, width, one, steps))
            self.assertEqual(stepped(boxes, width, one, steps), other)

    def test_the_examples(self):
        self.assertEqual(len(knot(THREE, 1, (0, 1, 2), (0, 2, 1))), 3)
        self.assertEqual(rounds(THREE, 1, (0, 1, 2), (1, 2, 0)), (0, 1, 1))
        self.assertIsNone(rounds(THREE, 1, (0, 1, 2), (0, 2, 1)))
        self.assertIsNone(knot(THREE, 1, (0, 1, 2), (1, 2, 0)))

    def test_no_two_broad_together(self):
        for many in (1, 2, 5, 12, 40):
            boxes = of_widths(*[2] * many)
            order = tuple(range(many))
            for other in (order, order[::-1], order[1:] + order[:1]):
                self.assertEqual(rounds(boxes, 4, order, other), (0,) * many)
                self.assertTrue(self.judge(boxes, 4, order, other))

    def test_all_broad_together(self):
        for many in (1, 2, 3, 5, 12, 40):
            boxes = of_widths(*[2] * many)
            order = tuple(range(many))
            for begin in range(many):
                other = order[begin:] + order[:begin]
                self.assertTrue(self.judge(boxes, 3, order, other))
                self.assertEqual(rounds(boxes, 3, order, other), (0,) * begin + (1,) * (many - begin) if begin else
                                 (0,) * many)
            if many > 2:
                self.assertFalse(self.judge(boxes, 3, order, order[::-1]))

    def test_two_boxes(self):
        for width in (2, 3, 4):
            for one, other in product([(0, 1), (1, 0)], repeat=2):
                self.assertTrue(self.judge(of_widths(2, 2), width, one, other))
        self.assertEqual(rounds(of_widths(2, 2), 3, (0, 1), (1, 0)), (0, 1))
        self.assertEqual(rounds(of_widths(2, 2), 3, (1, 0), (0, 1)), (1, 0))

    def test_pieces_apart(self):
        boxes = of_widths(3, 3, 1, 1)
        self.assertEqual(rounds(boxes, 5, (0, 1, 2, 3), (1, 0, 3, 2)), (0, 1, 0, 0))
        self.assertEqual(rounds(of_widths(1, 4, 1, 4, 1), 6, (0, 1, 2, 3, 4), (4, 3, 2, 1, 0)), (0, 0, 0, 1, 0))

    def test_a_full_search_of_few_boxes(self):
        for widths in ((1, 1, 1), (1, 2, 3), (1, 2, 2, 1), (1, 2, 3, 1), (2, 2, 2, 1), (1, 2, 3, 2, 1), (1, 1, 2, 2, 2)):
            order = tuple(range(len(widths)))[::-1]
            for width in range(max(widths), 2 * max(widths)):
                right = list_oracles.reached_round(widths, width, order)
                for other in permutations(range(len(widths))):
                    self.assertIs(self.judge(of_widths(*widths), width, order, other), other in right)

    def test_rounds_of_two(self):
        # Of 1, 0, 2 each is broad with the next one, ahead of it in the one list, behind it in the other one.
        boxes = of_widths(9, 1, 1)
        self.assertEqual(rounds(boxes, 9, (1, 0, 2), (2, 0, 1)), (1, 0, 2))
        self.assertTrue(self.judge(boxes, 9, (1, 0, 2), (2, 0, 1)))
        samples = ListSamples(112)
        greatest = []
        for _ in range(300):
            boxes = of_widths(*samples.source.sample(range(1, 13), 12))
            one, other = samples.order(12), samples.order(12)
            width = samples.number(13, 18)
            if self.judge(boxes, width, one, other):
                greatest.append(max(rounds(boxes, width, one, other)))
        self.assertEqual(set(greatest), {0, 1, 2})

    def test_lists_that_steps_lead_to(self):
        samples = ListSamples(113)
        for _ in range(150):
            boxes = Boxes(samples.sizes(samples.number(2, 40), 4))
            width = samples.number(4, 7)
            one = samples.order(boxes.many)
            other = one
            for step in samples.source.choices(list_oracles.steps(boxes.many) + [("over",), ("over",)], k=200):
                other = list_oracles.behind_step(widths_of(boxes), width, other, step) or other
            self.assertTrue(self.judge(boxes, width, one, other))

    def test_lists_of_many_kinds(self):
        samples = ListSamples(114)
        counts = {True: 0, False: 0}
        for _ in range(400):
            boxes = Boxes(samples.sizes(samples.number(1, 9), 5))
            width = samples.number(5, 9)
            one = samples.order(boxes.many)
            other = samples.near_order(one, samples.number(0, 6))
            if samples.number(0, 1):
                other = other[2:] + other[:2]
            counts[self.judge(boxes, width, one, other)] += 1
        self.assertGreater(min(counts.values()), 50, counts)

    def test_two_boxes_that_pass_among_broad_ones(self):
        boxes = of_widths(9, 1, 9, 1)
        self.assertEqual(len(list_oracles.broad(boxes.sizes, 9)), 5)
        for one, other in product(permutations(range(4)), repeat=2):
            self.judge(boxes, 9, one, other)

    def test_13_boxes_and_more(self):
        for many in (13, 14, 40):
            boxes = of_widths(*[1] * many)
            order = tuple(range(many))
            for width, other in ((1, order), (2, order[::-1]), (1, order[::-1])):
                error = raised(round_steps, (boxes, width, order, other))
                self.assertIs(type(error), TooMany)
                self.assertEqual(error.most, 12)
                self.judge(boxes, width, order, other)
        order = tuple(range(12))
        for other in (order, order[::-1], order[7:] + order[:7]):
            self.assertTrue(self.judge(of_widths(*[1] * 12), 2, order, other))

    def test_equal_calls_equal_answers(self):
        boxes, same = of_widths(1, 2, 3, 4, 2), of_widths(1, 2, 3, 4, 2)
        for other in permutations(range(5)):
            for call in FROM_LISTS:
                self.assertEqual(call(boxes, 5, (0, 1, 2, 3, 4), other), call(same, 5, (0, 1, 2, 3, 4), other))


class IsRounds(unittest.TestCase):

    def test_whatever_the_least_are(self):
        for least in (-5, 0, 1, 10 ** 19):
            thing = (least, least + 1, least + 1)
            self.assertIs(is_rounds(THREE, 1, (0, 1, 2), (1, 2, 0), thing), True)
        self.assertIs(is_rounds(THREE, 2, (0, 1, 2), (2, 1, 0), (7, -7, 10 ** 20 - 1)), True)
        self.assertIs(is_rounds(of_widths(3, 3, 1, 1), 5, (0, 1, 2, 3), (1, 0, 3, 2), (4, 5, -9, 0)), True)

    def test_what_are_none(self):
        for thing in (
            (0, 0, 0), (0, 1, 0), (1, 0, 0), (0, -1, -1), (0, 2, 2), (0, 1), (0, 1, 1, 1), (False, 1, 1), (0, True, 1),
            [0, 1, 1], "011", None, (), (0, 1, "1"), ((0, 1, 1),), (0, 1, (1,)), {0: 0, 1: 1, 2: 1},
        ):
            self.assertIs(is_rounds(THREE, 1, (0, 1, 2), (1, 2, 0), thing), False, thing)

    def test_all_small_things(self):
        for widths in ((1, 1, 1), (1, 2, 2), (1, 2, 3)):
            for width in range(3, 6):
                for other in permutations(range(3)):
                    for thing in product(range(-1, 3), repeat=3):
                        right = list_oracles.right_rounds(widths, width, (0, 2, 1), other, thing)
                        self.assertIs(is_rounds(of_widths(*widths), width, (0, 2, 1), other, thing), right)

    def test_it_judges_any_thing(self):
        for width, other, right in ((1, (1, 2, 0), (0, 1, 1)), (2, (1, 2, 0), (5, 5, 5)), (1, (0, 2, 1), (0, 0, 0))):
            check_judge(self, is_rounds, (THREE, width, (0, 1, 2), other), lambda thing: list_oracles.right_rounds(
                (1, 1, 1), width, (0, 1, 2), other, thing), right)


class IsKnot(unittest.TestCase):

    def test_begun_elsewhere_and_turned_round(self):
        for thing in permutations(range(3)):
            self.assertIs(is_knot(THREE, 1, (0, 1, 2), (0, 2, 1), thing), True)

    def test_what_are_none(self):
        for thing in (
            (0, 1), (1, 2), (2, 1), (0,), (), (0, 1, 2, 0), (0, 1, 1), (0, 1, 1, 2), (False, 1, 2), (0, True, 2),
            [0, 1, 2], (0, 1, 3), (-1, 0, 1), (0, 1, "2"), ((0, 1, 2),), None, "012", (0, 1, (2,)), {0: 1, 1: 2, 2: 0},
        ):
            self.assertIs(is_knot(THREE, 1, (0, 1, 2), (0, 2, 1), thing), False, thing)

    def test_ones_that_add_up_to_0(self):
        for thing in permutations(range(3)):
            self.assertIs(is_knot(THREE, 1, (0, 1, 2), (1, 2, 0), thing), False)
            self.assertIs(is_knot(THREE, 1, (0, 1, 2), (0, 1, 2), thing), False)

    def test_ones_that_are_not_broad_all_round(self):
        boxes = of_widths(3, 1, 2)
        for thing in permutations(range(3)):
            self.assertIs(is_knot(boxes, 3, (0, 1, 2), (0, 2, 1), thing), False)
            self.assertIs(is_knot(of_widths(3, 2, 2), 3, (0, 1, 2), (0, 2, 1), thing), True)

    def test_all_rows_of_few_boxes(self):
        rows = [row for size in range(1, 5) for row in product(range(4), repeat=size)]
        counts = [0, 0]
        for widths, width in (((1, 2, 2, 2), 3), ((2, 2, 2, 2), 3), ((1, 3, 2, 3), 3)):
            for other in list(permutations(range(4)))[::2]:
                for row in rows:
                    right = list_oracles.right_knot(widths, width, (1, 0, 3, 2), other, row)
                    counts[right] += 1
                    self.assertIs(is_knot(of_widths(*widths), width, (1, 0, 3, 2), other, row), right)
        self.assertGreater(min(counts), 100)

    def test_it_judges_any_thing(self):
        for width, right in ((1, (0, 1, 2)), (2, (0, 1, 2)), (1, (2, 1, 0))):
            check_judge(self, is_knot, (THREE, width, (0, 1, 2), (0, 2, 1)), lambda thing: list_oracles.right_knot(
                (1, 1, 1), width, (0, 1, 2), (0, 2, 1), thing), right)


class Wrong(unittest.TestCase):

    def test_wrong_arguments(self):
        one, other = (0, 1, 2), (1, 2, 0)
        for call, more in ((rounds, ()), (knot, ()), (round_steps, ()), (is_rounds, (None,)), (is_knot, (None,))):
            check_kinds(self, call, (THREE, 2, one, other, *more), 1,
                        lambda thing: list_oracles.right_width(THREE.sizes, thing), NoWidth, [0, 10 ** 6 + 1])
            for place in (2, 3):
                check_kinds(self, call, (THREE, 2, one, other, *more), place,
                            lambda thing: list_oracles.right_list(3, thing), NoList, NO_LISTS)
            check_due(self, call, (THREE, 2, one, other, *more), [
                (1, 0, NoWidth), (1, None, NoWidth), (2, None, NoList), (3, (0, 1), NoList)])

    def test_too_many_comes_last(self):
        order = tuple(range(13))
        boxes = of_widths(*[2] * 13)
        for width, one, other, error in (
            (2, order, order, TooMany), (1, order, order, NoWidth), (2, None, order, NoList), (2, order, order[:12], NoList),
            (1, None, None, NoWidth), (3, order, order[::-1], TooMany),
        ):
            self.assertIs(type(raised(round_steps, (boxes, width, one, other))), error)


if __name__ == "__main__":
    unittest.main()
