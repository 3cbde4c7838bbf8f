"""Books, rings, orders: 1.2."""

import unittest
from itertools import combinations, permutations, product
from math import comb, factorial

import oracles
from fourstrokes.books import above, count_orders, is_ring, left_of, order_at, passed_on, ring
from fourstrokes.boxes import Boxes
from fourstrokes.errors import BadBook, NoNumber, NoPicture, StrokeError, TooMany
from oracles import Samples
from things import spoiled, strange_things

TWO = Boxes(((2, 1), (2, 1)))
CHAIN = tuple((number, number + 1) for number in range(39))
ROUND = tuple(sorted(CHAIN + ((39, 0),)))
EVERY = tuple(permutations(range(40), 2))
CALLS = {
    "ring": ring,
    "is_ring": lambda many, book: is_ring(many, book, None),
    "passed_on": passed_on,
    "count_orders": count_orders,
    "order_at": lambda many, book: order_at(many, book, 0),
}


def all_books(many):
    """Each book of so many things."""
    pairs = list(permutations(range(many), 2))
    return [book for size in range(len(pairs) + 1) for book in combinations(pairs, size)]


class BooksOfPictures(unittest.TestCase):

    def judge(self, sizes, picture):
        boxes = Boxes(sizes)
        for found, right in ((left_of, oracles.left_of), (above, oracles.above)):
            book = found(boxes, picture)
            self.assertEqual(book, right(sizes, picture), (sizes, picture))
            self.assertIs(type(book), tuple)
            self.assertIsNone(oracles.book_fault(len(sizes), book))
            self.assertFalse(oracles.has_ring(len(sizes), book))
            self.assertIsNone(ring(len(sizes), book))

    def test_the_examples(self):
        self.assertEqual(left_of(TWO, ((0, 0), (2, 0))), ((0, 1),))
        self.assertEqual(above(TWO, ((0, 0), (1, 1))), ((0, 1),))

    def test_the_nearer_one_comes_first(self):
        self.assertEqual(left_of(TWO, ((2, 0), (0, 0))), ((1, 0),))
        self.assertEqual(above(TWO, ((0, 1), (0, 0))), ((1, 0),))
        self.assertEqual(above(TWO, ((0, -9), (0, -8))), ((0, 1),))

    def test_two_boxes_at_all_near_places(self):
        sizes = ((3, 2), (2, 4))
        for place in product(range(-6, 7), repeat=2):
            picture = ((-1, -2), place)
            if oracles.right_picture(sizes, picture):
                self.judge(sizes, picture)

    def test_edges_in_common_are_not_one_row_or_column(self):
        self.assertEqual(left_of(TWO, ((0, 0), (9, 1))), ())
        self.assertEqual(left_of(TWO, ((0, 0), (9, -1))), ())
        self.assertEqual(above(TWO, ((0, 0), (2, 9))), ())
        self.assertEqual(above(TWO, ((0, 0), (-2, 9))), ())
        self.assertEqual(left_of(TWO, ((0, 0), (0, 1))), ())
        self.assertEqual(above(TWO, ((0, 0), (2, 0))), ())
        self.assertEqual((left_of(TWO, ((0, 0), (2, 1))), above(TWO, ((0, 0), (2, 1)))), ((), ()))

    def test_far_apart_in_one_row(self):
        far = 10 ** 20 - 1
        self.assertEqual(left_of(TWO, ((far, 0), (-far, 0))), ((1, 0),))
        self.assertEqual(above(TWO, ((far, 0), (-far, 0))), ())
        self.assertEqual(above(TWO, ((0, far), (1, -far))), ((1, 0),))

    def test_many_boxes(self):
        samples = Samples(21)
        for _ in range(200):
            sizes = samples.sizes(samples.number(1, 9))
            self.judge(sizes, samples.picture(sizes, 4))
        sizes = samples.sizes(40, 4)
        for reach in (8, 20, 100):
            self.judge(sizes, samples.picture(sizes, reach))

    def test_40_boxes_in_a_row(self):
        boxes = Boxes(((1, 1),) * 40)
        pairs = tuple(combinations(range(40), 2))
        self.assertEqual(left_of(boxes, tuple((number, -3) for number in range(40))), pairs)
        self.assertEqual(above(boxes, tuple((-3, number) for number in range(40))), pairs)

    def test_what_is_no_picture(self):
        for thing in strange_things() + spoiled(((0, 0), (2, 0))) + [((0, 0), (1, 0)), ((0, 0), (0, 0))]:
            for function, right in ((left_of, oracles.left_of), (above, oracles.above)):
                if oracles.right_picture(TWO.sizes, thing):
                    self.assertEqual(function(TWO, thing), right(TWO.sizes, thing))
                else:
                    with self.assertRaises(NoPicture):
                        function(TWO, thing)


class Rings(unittest.TestCase):

    def judge(self, many, book):
        found = ring(many, book)
        if oracles.has_ring(many, book):
            self.assertTrue(oracles.right_ring(many, book, found), (many, book, found))
            self.assertIs(is_ring(many, book, found), True)
        else:
            self.assertIsNone(found, (many, book))

    def test_all_books_of_few_things(self):
        for many in (1, 2, 3):
            for book in all_books(many):
                self.judge(many, book)

    def test_books_of_more_things(self):
        samples = Samples(22)
        for _ in range(400):
            many = samples.number(4, 8)
            self.judge(many, samples.book(many, samples.number(0, 12)))

    def test_40_things(self):
        self.judge(40, ())
        self.judge(40, CHAIN)
        self.judge(40, EVERY)
        self.judge(40, ROUND)
        self.assertEqual(ring(40, ROUND), tuple(range(40)))
        back = tuple(sorted((other, one) for one, other in ROUND))
        self.assertEqual(ring(40, back), (0,) + tuple(range(39, 0, -1)))

    def test_a_ring_far_from_the_first_thing_with_ways_to_it_and_from_it(self):
        book = ((0, 1), (1, 3), (3, 5), (4, 3), (5, 4), (5, 6), (6, 7))
        self.assertEqual(ring(8, book), (3, 5, 4))

    def test_a_ring_of_two(self):
        self.assertEqual(ring(2, ((0, 1), (1, 0))), (0, 1))
        self.assertEqual(ring(9, ((0, 8), (5, 8), (8, 5))), (5, 8))

    def test_is_ring_of_all_tuples(self):
        books = [samples_book for samples_book in all_books(3) if len(samples_book) in (2, 3, 4, 6)]
        things = [thing for size in range(5) for thing in product(range(-1, 4), repeat=size)]
        for book in books:
            for thing in things:
                self.assertIs(is_ring(3, book, thing), oracles.right_ring(3, book, thing), (book, thing))

    def test_is_ring_of_longer_tuples(self):
        samples = Samples(23)
        things = [thing for size in range(2, 6) for thing in permutations(range(5), size)]
        for _ in range(12):
            book = samples.book(5, samples.number(5, 14))
            for thing in things:
                self.assertIs(is_ring(5, book, thing), oracles.right_ring(5, book, thing), (book, thing))

    def test_is_ring_of_edges(self):
        book = ((0, 1), (0, 2), (1, 2), (2, 0))
        for thing, right in (
            ((0, 1, 2), True), ((0, 2), True), ((1, 2, 0), False), ((2, 0), False), ((0, 2, 1), False), ((0, 1), False),
            ((0,), False), ((), False), ((0, 1, 2, 0), False), ((0, 1, 2, 0, 1, 2), False), ((0, 2, 0, 2), False),
            ([0, 1, 2], False), ((0, True, 2), False), ((False, 1, 2), False), ((0, 1, 3), False), ((0, -1), False),
            ("012", False), (((0, 1), (1, 2)), False), ((0, None), False),
        ):
            self.assertIs(is_ring(3, book, thing), right, thing)
        self.assertIs(is_ring(40, ROUND, tuple(range(40))), True)
        self.assertIs(is_ring(40, ROUND, tuple(range(39))), False)
        self.assertIs(is_ring(40, EVERY, tuple(range(40)) * 2), False)

    def test_is_ring_of_things_told_twice(self):
        both = ((0, 1), (1, 0))
        self.assertIs(is_ring(5, both, (0, 1)), True)
        self.assertIs(is_ring(5, both, (0, 1, 0, 1)), False)
        eight = ((0, 1), (0, 2), (1, 0), (2, 0))
        self.assertIs(is_ring(5, eight, (0, 1, 0, 2)), False)
        for thing in product(range(3), repeat=4):
            self.assertIs(is_ring(5, eight, thing), False)
        self.assertIs(is_ring(40, ROUND[:1] + ((1, 0),), (0, 1) * 20), False)

    def test_is_ring_judges_any_thing(self):
        book = ((0, 1), (1, 2), (2, 0))
        for thing in strange_things() + spoiled((0, 1, 2)):
            self.assertIs(is_ring(3, book, thing), oracles.right_ring(3, book, thing))


class PassedOn(unittest.TestCase):

    def judge(self, many, book):
        right = tuple(
            (one, other) for one in range(many) for other in sorted(oracles.leads(book, one)) if one != other)
        self.assertEqual(passed_on(many, book), right)
        self.assertIs(type(passed_on(many, book)), tuple)

    def test_all_books_of_few_things(self):
        for many in (1, 2, 3):
            for book in all_books(many):
                self.judge(many, book)

    def test_books_of_more_things(self):
        samples = Samples(24)
        for _ in range(300):
            many = samples.number(4, 10)
            self.judge(many, samples.book(many, samples.number(0, 14)))

    def test_40_things(self):
        self.assertEqual(passed_on(40, ()), ())
        self.assertEqual(passed_on(40, CHAIN), tuple(combinations(range(40), 2)))
        self.assertEqual(passed_on(40, ROUND), EVERY)
        self.assertEqual(passed_on(40, EVERY), EVERY)

    def test_what_is_passed_on_stays(self):
        book = ((0, 3), (1, 2), (2, 0), (4, 1))
        once = passed_on(5, book)
        self.assertEqual(passed_on(5, once), once)


class Orders(unittest.TestCase):

    def judge(self, many, book):
        right = oracles.keeping_orders(many, book)
        self.assertEqual(count_orders(many, book), len(right))
        self.assertEqual([order_at(many, book, number) for number in range(len(right))], right)
        for number in (len(right), len(right) + 1, -1, 10 ** 20 - 1, -(10 ** 20) + 1):
            with self.assertRaises(NoNumber):
                order_at(many, book, number)

    def test_the_example(self):
        self.assertEqual(count_orders(3, ((0, 2),)), 3)
        self.assertEqual(order_at(3, ((0, 2),), 2), (1, 0, 2))

    def test_all_books_of_few_things(self):
        for many in (1, 2, 3):
            for book in all_books(many):
                self.judge(many, book)

    def test_books_of_more_things(self):
        samples = Samples(25)
        for _ in range(25):
            many = samples.number(4, 5)
            self.judge(many, samples.book(many, samples.number(0, 5)))
        self.judge(6, ((0, 5), (1, 5), (4, 2), (5, 3)))
        self.judge(6, ((3, 0), (3, 1), (5, 3)))

    def test_books_with_rings_are_kept_by_no_order(self):
        for many, book in ((2, ((0, 1), (1, 0))), (14, ((3, 4), (4, 9), (9, 3))), (14, tuple(permutations(range(14), 2)))):
            self.assertEqual(count_orders(many, book), 0)
            for number in (0, 1, -1):
                with self.assertRaises(NoNumber):
                    order_at(many, book, number)

    def test_14_things_without_pairs(self):
        self.assertEqual(count_orders(14, ()), factorial(14))
        self.assertEqual(order_at(14, (), 0), tuple(range(14)))
        self.assertEqual(order_at(14, (), factorial(14) - 1), tuple(range(13, -1, -1)))
        self.assertEqual(order_at(14, (), factorial(13)), (1, 0) + tuple(range(2, 14)))
        self.assertEqual(order_at(14, (), factorial(13) - 1), (0,) + tuple(range(13, 0, -1)))
        for number in (factorial(14), -1):
            with self.assertRaises(NoNumber):
                order_at(14, (), number)

    def test_14_things_in_two_rows(self):
        book = tuple((number, number + 1) for number in range(13) if number != 6)
        self.assertEqual(count_orders(14, book), comb(14, 7))
        self.assertEqual(order_at(14, book, 0), tuple(range(14)))
        self.assertEqual(order_at(14, book, comb(14, 7) - 1), tuple(range(7, 14)) + tuple(range(7)))
        self.assertEqual(order_at(14, book, 1), (0, 1, 2, 3, 4, 5, 7, 6, 8, 9, 10, 11, 12, 13))

    def test_14_things_in_one_row(self):
        self.assertEqual(count_orders(14, CHAIN[:13]), 1)
        self.assertEqual(order_at(14, CHAIN[:13], 0), tuple(range(14)))
        with self.assertRaises(NoNumber):
            order_at(14, CHAIN[:13], 1)

    def test_one_thing(self):
        self.assertEqual(count_orders(1, ()), 1)
        self.assertEqual(order_at(1, (), 0), (0,))
        self.assertIs(type(order_at(1, (), 0)), tuple)

    def test_more_than_14_things(self):
        for many, book in ((15, ()), (15, ((0, 1), (1, 0))), (15, CHAIN[:14]), (40, ()), (40, CHAIN), (40, EVERY)):
            for function in (count_orders, lambda many, book: order_at(many, book, 0)):
                with self.assertRaises(TooMany) as caught:
                    function(many, book)
                self.assertEqual(caught.exception.most, 14)

    def test_numbers_of_orders_that_are_none(self):
        for thing in strange_things():
            if oracles.integer(thing) and 0 <= thing < 3:
                self.assertEqual(order_at(3, ((0, 2),), thing), ((0, 1, 2), (0, 2, 1), (1, 0, 2))[thing])
            else:
                with self.assertRaises(NoNumber):
                    order_at(3, ((0, 2),), thing)


class Wrong(unittest.TestCase):

    def test_wrong_numbers_of_things(self):
        for name, call in CALLS.items():
            for thing in strange_things() + [0, 41, -1, True, 10 ** 19]:
                if oracles.integer(thing) and 1 <= thing <= 40:
                    continue
                for book in ((), None, ((0, 1),)):
                    with self.subTest(name), self.assertRaises(NoNumber):
                        call(thing, book)

    def test_40_things_are_not_too_many(self):
        self.assertIsNone(ring(40, ((0, 39),)))
        self.assertIs(is_ring(40, ((0, 39), (39, 0)), (0, 39)), True)
        self.assertEqual(passed_on(40, ((0, 39),)), ((0, 39),))
        for name, call in CALLS.items():
            with self.subTest(name), self.assertRaises(NoNumber):
                call(41, ((0, 39),))

    def test_one_thing_has_no_pairs(self):
        self.assertIsNone(ring(1, ()))
        self.assertIs(is_ring(1, (), (0,)), False)
        self.assertEqual(passed_on(1, ()), ())

    def judge(self, many, book):
        """The same fault is found by each function."""
        fault = oracles.book_fault(many, book)
        for name, call in CALLS.items():
            with self.subTest(name):
                if fault is None:
                    try:
                        call(many, book)
                    except NoNumber:
                        self.assertEqual(name, "order_at")
                        self.assertTrue(oracles.has_ring(many, book))
                else:
                    with self.assertRaises(BadBook) as caught:
                        call(many, book)
                    self.assertEqual(caught.exception.index, fault)

    def test_strange_books(self):
        for thing in strange_things():
            for many in (1, 3, 14):
                self.judge(many, thing)

    def test_spoiled_books(self):
        for thing in spoiled(((0, 1), (1, 2), (2, 0))):
            self.judge(3, thing)

    def test_the_first_fault(self):
        for many, book, fault in (
            (3, [], -1), (3, [(0, 1)], -1), (3, None, -1), (3, "01", -1), (3, {(0, 1): 1}, -1),
            (3, ((0, 1), (0, 1)), 1), (3, ((0, 2), (0, 1)), 1), (3, ((0, 1), (2, 0), (1, 2)), 2), (3, ((1, 0), (0, 1)), 1),
            (3, ((0, 0),), 0), (3, ((0, 1), (1, 1)), 1), (3, ((0, 3),), 0), (3, ((3, 0),), 0), (3, ((0, 1), (0, -1)), 1),
            (3, ((-1, 0),), 0), (3, ((False, 1),), 0), (3, ((0, True),), 0), (3, ([0, 1],), 0), (3, ((0, 1), [0, 2]), 1),
            (3, ((0, 1, 2),), 0), (3, ((0,),), 0), (3, ((),), 0), (3, (0, 1), 0), (3, ((0, 1), None, (0, 0)), 1),
            (3, ((0, 1), (0, 2), (1, 0), (1, 2), (2, 0), (2, 1), (2, 1)), 6), (1, ((0, 0),), 0), (1, ((0, 1),), 0),
            (14, ((0, 13), (0, 14)), 1), (40, EVERY + ((39, 38),), 1560), (40, EVERY + ((0, 1),), 1560),
        ):
            self.assertEqual(oracles.book_fault(many, book), fault)
            if many <= 14:
                self.judge(many, book)
            else:
                with self.assertRaises(BadBook) as caught:
                    ring(many, book)
                self.assertEqual(caught.exception.index, fault)

    def test_the_errors_in_their_order(self):
        for call in CALLS.values():
            with self.assertRaises(NoNumber):
                call(0, None)
            with self.assertRaises(BadBook):
                call(15, None)
            with self.assertRaises(BadBook):
                call(40, ((0, 40),))
        with self.assertRaises(NoNumber):
            is_ring(41, [], None)
        with self.assertRaises(BadBook):
            is_ring(2, [], (0, 1))
        with self.assertRaises(NoNumber):
            order_at(41, (), -1)
        with self.assertRaises(BadBook):
            order_at(2, None, -1)
        with self.assertRaises(BadBook):
            order_at(15, None, None)
        with self.assertRaises(TooMany):
            order_at(15, (), None)
        with self.assertRaises(TooMany):
            order_at(15, (), -1)
        with self.assertRaises(NoNumber):
            order_at(14, (), None)

    def test_no_other_error(self):
        for name, call in CALLS.items():
            with self.assertRaises(StrokeError) as caught:
                call(None, None)
            self.assertIs(type(caught.exception), NoNumber, name)


class Same(unittest.TestCase):

    def test_equal_calls_give_equal_answers(self):
        samples = Samples(26)
        for _ in range(20):
            book = samples.book(6, 9)
            self.assertEqual(ring(6, book), ring(6, tuple(list(book))))
            self.assertEqual(passed_on(6, book), passed_on(6, tuple(list(book))))


if __name__ == "__main__":
    unittest.main()
