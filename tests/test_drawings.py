"""Drawings: 9.3."""

import unittest
from itertools import product

import oracles
import text_oracles
from fourstrokes.boxes import Boxes
from fourstrokes.drawings import drawn, read_drawn
from fourstrokes.errors import BadText, NoDrawing, NoPicture, TooMany
from oracles import Samples
from text_oracles import SIGNS, spoiled_texts
from things import strange_things
from wrongs import check_due, check_kinds, raised

TWO = Boxes(((2, 1), (2, 1)))


class Judging(unittest.TestCase):

    def judge_picture(self, sizes, picture):
        """A picture is drawn as told sign by sign, and read again."""
        text = drawn(Boxes(sizes), picture)
        self.assertEqual(text, text_oracles.drawn(sizes, picture))
        boxes, places = read_drawn(text)
        left, top = min(x for x, _ in picture), min(y for _, y in picture)
        self.assertEqual((boxes, places), (Boxes(sizes), tuple((x - left, y - top) for x, y in picture)))
        self.assertEqual((type(boxes), type(places)), (Boxes, tuple))
        return text

    def judge_text(self, text):
        """A text is read as the drawing it is, or refused; whether it is one is returned."""
        due = text_oracles.read_drawn(text)
        if due is None:
            self.assertIs(type(raised(read_drawn, (text,))), NoDrawing, repr(text))
            return False
        boxes, places = read_drawn(text)
        self.assertEqual((boxes.sizes, places), due)
        self.assertEqual(drawn(boxes, places), text)
        return True

    def check(self, text, right):
        self.assertIs(self.judge_text(text), right, repr(text))


class Drawn(Judging):

    def test_the_example(self):
        self.assertEqual(drawn(TWO, ((0, 0), (2, 1))), "AA\n  BB\n")
        self.assertEqual(drawn(TWO, ((2, 1), (0, 0))), "BB\n  AA\n")

    def test_the_least_column_and_row_are_the_first_ones(self):
        for x, y in product((0, 1, -1, -7, 10 ** 20 - 9, -(10 ** 20) + 1), repeat=2):
            self.assertEqual(self.judge_picture(TWO.sizes, ((x, y + 1), (x + 3, y))), "   BB\nAA\n")

    def test_no_blanks_at_the_ends_of_rows(self):
        sizes = ((1, 1), (1, 3), (4, 1))
        self.assertEqual(self.judge_picture(sizes, ((3, 0), (0, 0), (0, 3))), "B  A\nB\nB\nCCCC\n")

    def test_rows_that_are_empty_between_boxes(self):
        self.assertEqual(self.judge_picture(TWO.sizes, ((0, 0), (1, 3))), "AA\n\n\n BB\n")
        self.assertEqual(self.judge_picture(TWO.sizes, ((5, 2), (0, 0))), "BB\n\n     AA\n")

    def test_columns_that_are_empty_between_boxes(self):
        self.assertEqual(self.judge_picture(TWO.sizes, ((0, 0), (5, 0))), "AA   BB\n")

    def test_all_signs(self):
        sizes = ((1, 1),) * 40
        self.assertEqual(self.judge_picture(sizes, tuple((box, 0) for box in range(40))), SIGNS + "\n")
        self.assertEqual(self.judge_picture(sizes, tuple((0, -box) for box in range(40))), "\n".join(SIGNS[::-1]) + "\n")
        self.assertEqual((SIGNS[25], SIGNS[26], SIGNS[39]), ("Z", "a", "n"))
        for many in (1, 25, 26, 27, 39):
            self.judge_picture(((2, 2),) * many, tuple((3 * (box % 7), 2 * (box // 7)) for box in range(many)))

    def test_just_200_and_201_columns_and_rows(self):
        one = Boxes(((1, 1), (1, 1)))
        for axis in (0, 1):
            for edge, right in ((199, True), (200, False), (-199, True), (-200, False), (10 ** 19, False), (198, True)):
                place = (edge, 0) if axis == 0 else (0, edge)
                error = raised(drawn, (one, ((0, 0), place)))
                if right:
                    self.judge_picture(one.sizes, ((0, 0), place))
                else:
                    self.assertEqual((type(error), error.most), (TooMany, 200))
        for size, right in (((200, 1), True), ((201, 1), False), ((1, 200), True), ((1, 201), False), ((200, 200), True),
                            ((1000, 1000), False), ((201, 201), False)):
            error = raised(drawn, (Boxes((size,)), ((7, -7),)))
            self.assertIs(type(error), type(None) if right else TooMany)
            if right:
                self.judge_picture((size,), ((7, -7),))

    def test_beyond_a_box_that_is_not_the_last_edge(self):
        self.judge_picture(((200, 1), (1, 1)), ((0, 0), (100, 1)))
        self.judge_picture(((1, 1), (150, 3), (2, 190)), ((0, 0), (5, 5), (155, 0)))
        error = raised(drawn, (Boxes(((200, 1), (1, 1))), ((0, 0), (-1, 1))))
        self.assertEqual((type(error), error.most), (TooMany, 200))

    def test_what_is_no_picture(self):
        def right(thing):
            return oracles.right_picture(TWO.sizes, thing)
        check_kinds(self, drawn, (TWO, ((0, 0), (2, 1))), 1, right, NoPicture, [((0, 0), (1, 0))])
        check_due(self, drawn, (TWO, ((0, 0), (2, 1))), [(1, ((999, 0), (999, 0)), NoPicture), (1, ((0, 0), (199, 0)), TooMany)])

    def test_pictures_of_many_kinds(self):
        samples = Samples(131)
        for turn in range(300):
            sizes = samples.sizes(samples.number(1, 12), 1 + turn % 6)
            self.judge_picture(sizes, samples.picture(sizes, 4 + turn % 9))


class ReadDrawn(Judging):

    def test_drawings(self):
        for text in ("A\n", "AB\n", "BA\n", "A\nB\n", " A\nB\n", "AA\nAA\n", "AAB\nAAB\nCCC\n", "A B\n", "A\n\nB\n", "ABC\nD\n", "B\n A\n"):
            self.check(text, True)

    def test_what_is_no_drawing(self):
        for text in (
            "", "\n", "\n\n", " ", " \n", "A", "AB", "A\nB", "B\n", "AC\n", "A \n", "A\n \n", "A\n\n", "\nA\n", " A\n", " A\n B\n", "A \nB\n",
            "AA\nA\n", "A\nAA\n", "AA\n A\n", "A A\n", "A\n\nA\n", "ABA\n", "AAA\nA A\nAAA\n", "AAA\nABA\nAAA\n", "AB\nBA\n", "AB\nAA\n",
            "AAB\nABB\n", "a\n", "Aa\n", "A\nb\n", "o\n", "A1\n", "A.\n", "A-\n", "A\tB\n", "A\rB\n", "AB;\n", SIGNS + "o\n", SIGNS + "p\n",
            SIGNS[1:] + "\n", SIGNS[:-1] + "o\n", "\n".join(SIGNS) + "\no\n", "AA\nAA", "AAB\nAA\nAAB\n", "?\n", "@AB\n", "A\n" + " " * 50 + "\nB\n",
        ):
            self.check(text, False)

    def test_no_drawing_is_refused_by_an_error_of_another_kind(self):
        for text in ("A" * 19999 + "\n", "A\n" * 10000, "\n" * 20000, "A" * 1001 + "\n", "A\n" * 1001, " " * 20000, "A" + " " * 500 + "B\n"):
            self.check(text, False)

    def test_just_200_and_201_columns_and_rows(self):
        for many, right in ((199, True), (200, True), (201, False), (202, False)):
            self.check("A" * many + "\n", right)
            self.check("A\n" * many, right)
            self.check("A" + " " * (many - 2) + "B\n", right)
            self.check("A\n" + "\n" * (many - 2) + "B\n", right)
        self.check(("A" * 99 + "\n") * 200, True)
        self.check(("A" * 99 + "\n") * 201, False)

    def test_drawings_that_are_spoiled(self):
        counts = {True: 0, False: 0}
        for text in ("AAB\nAAB\n\n CC\n", "B  A\nB\nCCCC\n", "AA CC\nAABCC\n  B\n", "ABC\nDEF\n", "AAA\nAAA\n"):
            for spoiled in spoiled_texts(text, "ABC Ea\n"):
                counts[self.judge_text(spoiled)] += 1
        self.assertGreater(min(counts.values()), 50, counts)

    def test_all_texts_of_few_signs(self):
        counts = {True: 0, False: 0}
        for size in range(0, 7):
            for signs in product("AB \n", repeat=size):
                counts[self.judge_text("".join(signs))] += 1
        self.assertGreater(min(counts.values()), 20, counts)

    def test_a_whole_picture_with_one_sign_spoiled(self):
        sizes = ((3, 2), (2, 4), (5, 1), (1, 1), (4, 3))
        text = self.judge_picture(sizes, ((0, 0), (4, -1), (0, 4), (9, 9), (7, 0)))
        for spoiled in spoiled_texts(text, "ADEFe \n"):
            self.judge_text(spoiled)

    def test_what_is_no_string(self):
        for thing in strange_things():
            if type(thing) is not str:
                error = raised(read_drawn, (thing,))
                self.assertEqual((type(error), error.line), (BadText, 0))
            else:
                self.judge_text(thing)


if __name__ == "__main__":
    unittest.main()
