"""Texts of pictures and scripts: 9.1."""

import unittest
from itertools import product

import oracles
import text_oracles
from fourstrokes.boxes import Boxes
from fourstrokes.errors import BadBoxes, BadText, NoPicture, NoScript
from fourstrokes.strokes import first_hit, places_at
from fourstrokes.texts import picture_text, read_picture, read_script, script_text
from oracles import Samples
from text_oracles import spoiled_texts
from things import strange_things
from wrongs import check_kinds, raised

SIZES = ((2, 1), (30, 400))
TWO = Boxes(SIZES)
APART = ((0, 0), (2, -17))
TEXT = "box 2 1 0 0\nbox 30 400 2 -17\n"
SCRIPT = (("level", (0, 5)), ("upright", (-1, 123456789)))
LINES = "level 0 5\nupright -1 123456789\n"
RIGHT = ["0", "1", "9", "10", "100", "999", "123456789", "999999999", "100000000", "-1", "-9", "-10", "-999999999"]
WRONG = [
    "", "-", "+", "00", "01", "007", "-0", "-00", "-01", "+1", "+0", "--1", "-+1", "1-", "1.0", "1e3", "0x1", "1_0", "one",
    "1234567890", "1000000000", "-1234567890", "0000000001", "9" * 300, "a", "1a", "a1", "1,2", ";", "\t1", "1\t",
]


def spell(number):
    """The figures of a number of any size, told one by one."""
    figures = []
    rest = abs(number)
    while rest or not figures:
        figures.append("0123456789"[rest % 10])
        rest //= 10
    return ("-" if number < 0 else "") + "".join(figures[::-1])


class PictureText(unittest.TestCase):

    def judge(self, sizes, picture):
        """The text of a picture tells it, and is read again if its numbers are short enough."""
        text = picture_text(Boxes(sizes), picture)
        due = "".join(f"box {w} {h} {spell(x)} {spell(y)}\n" for (w, h), (x, y) in zip(sizes, picture))
        self.assertEqual(text, due)
        if all(abs(edge) < 10 ** 9 for place in picture for edge in place):
            boxes, again = read_picture(text)
            self.assertEqual((boxes, again), (Boxes(sizes), picture))
            self.assertEqual((type(boxes), type(again)), (Boxes, tuple))
        else:
            self.assertIs(type(raised(read_picture, (text,))), BadText)

    def test_one_box_and_forty(self):
        self.assertEqual(picture_text(TWO, APART), TEXT)
        self.assertEqual(picture_text(Boxes(((1000, 7),)), ((-3, 0),)), "box 1000 7 -3 0\n")
        self.judge(((1, 1),), ((0, 0),))
        self.judge(((3, 4),) * 40, tuple((3 * box, -5 * box) for box in range(40)))

    def test_numbers_of_any_size(self):
        for far in (10 ** 9 - 1, 10 ** 9, 10 ** 20 - 1, 10 ** 59, 10 ** 60 - 1, 10 ** 60, 10 ** 60 + 7, 10 ** 120, 10 ** 999):
            self.judge(SIZES, ((far, -far), (-far, far)))
            self.judge(SIZES, ((far + 1, 5), (0, -far - 1)))

    def test_numbers_that_were_returned_and_grew(self):
        boxes = Boxes(((1, 1), (1, 1)))
        goals = (3 ** 9000, 0)
        moment = first_hit(boxes, ((0, 0), (5, 0)), ("level", goals))[0]
        (top, bottom), _ = places_at(boxes, ((0, 0), (5, 0)), ("level", goals), moment)[1]
        self.assertGreater(bottom, 10 ** 4000)
        self.judge(boxes.sizes, ((top ** 2, -bottom ** 2), (-7, 1)))
        self.assertEqual(script_text(boxes, (("level", (-top ** 2, bottom)),)), f"level {spell(-top ** 2)} {spell(bottom)}\n")

    def test_what_is_no_picture(self):
        def right(thing):
            return oracles.right_picture(SIZES, thing)
        check_kinds(self, picture_text, (TWO, APART), 1, right, NoPicture, [((0, 0), (1, 0))])

    def test_pictures_of_many_kinds(self):
        samples = Samples(111)
        for _ in range(100):
            sizes = samples.sizes(samples.number(1, 8), 9)
            self.judge(sizes, samples.picture(sizes, 50))


class ReadPicture(unittest.TestCase):

    def judge(self, text):
        """What is wrong with a text, if anything, is told as it is due."""
        error = raised(read_picture, (text,))
        line = text_oracles.bad_picture_line(text)
        if line is not None:
            self.assertEqual((type(error), getattr(error, "line", None)), (BadText, line), repr(text))
            return "text"
        numbers = [tuple(int(word) for word in each.split()[1:]) for each in text.split("\n")[:-1]]
        sizes, places = tuple(each[:2] for each in numbers), tuple(each[2:] for each in numbers)
        wrong = [box for box, size in enumerate(sizes) if not text_oracles.right_size(size)]
        if not 1 <= len(sizes) <= 40 or wrong:
            part = wrong[0] if 1 <= len(sizes) <= 40 else -1
            self.assertEqual((type(error), getattr(error, "part", None)), (BadBoxes, part), repr(text))
            return "boxes"
        if not oracles.right_picture(sizes, places):
            self.assertIs(type(error), NoPicture, repr(text))
            return "picture"
        self.assertEqual(read_picture(text), (Boxes(sizes), places))
        return "right"

    def check(self, text, kind, told=None):
        error = raised(read_picture, (text,))
        self.assertEqual((type(error), *vars(error).values()), (kind,) if told is None else (kind, told), repr(text))
        self.judge(text)

    def test_right_ones(self):
        self.assertEqual(read_picture(TEXT), (TWO, APART))
        self.assertEqual(read_picture("box 1 1000 -999999999 999999999\n"), (Boxes(((1, 1000),)), ((-999999999, 999999999),)))

    def test_what_is_no_string(self):
        for thing in strange_things():
            if type(thing) is not str:
                error = raised(read_picture, (thing,))
                self.assertEqual((type(error), error.line), (BadText, 0))
                error = raised(read_script, (TWO, thing))
                self.assertEqual((type(error), error.line), (BadText, 0))

    def test_numbers_and_what_is_none(self):
        for word, place in product(RIGHT + WRONG, range(4)):
            words = ["5", "6", "7", "8"]
            words[place] = word
            kind = self.judge("box " + " ".join(words) + "\n")
            self.assertEqual(kind == "text", word in WRONG, (word, place))

    def test_lines_without_the_form(self):
        for line in (
            "", " ", "box", "box ", "box 1", "box 1 1", "box 1 1 0", "box 1 1 0 0 0", " box 1 1 0 0", "box 1 1 0 0 ", "box  1 1 0 0",
            "box 1  1 0 0", "box 1 1 0  0", "Box 1 1 0 0", "BOX 1 1 0 0", "boxes 1 1 0 0", "bo 1 1 0 0", "1 1 0 0", "box,1,1,0,0",
            "level 1 1 0 0", "box box 1 1 0 0", "box1 1 0 0", "box 1 1 0 O", "box 1 1 0 0;", "box 1 1 0 0\r", "box\t1 1 0 0",
        ):
            self.check(line + "\n", BadText, 1)
            self.check(TEXT + line + "\n", BadText, 3)
            self.check("box 1 1 0 0\n" + line + "\n" + TEXT, BadText, 2)
            self.check(line + "\n" + line + "\n", BadText, 1)

    def test_the_last_line_feed_lacking_and_something_behind_it(self):
        self.check(TEXT[:-1], BadText, 2)
        self.check("box 1 1 0 0", BadText, 1)
        for more in ("box 1 1 99 0", " ", "x", "box"):
            self.check(TEXT + more, BadText, 3)
        self.check("box 1 1 0\n" + "box 1 1 0 0", BadText, 1)
        self.check("\n", BadText, 1)

    def test_the_empty_text(self):
        self.check("", BadBoxes, -1)

    def test_no_boxes_come_behind_bad_texts(self):
        for size in ("0 1", "1 0", "1001 1", "1 1001", "-1 1", "999999999 1", "1 -999999999"):
            self.check(f"box {size} 0 0\n", BadBoxes, 0)
            self.check(f"{TEXT}box {size} 0 0\nbox {size} 0 0\n", BadBoxes, 2)
            self.check(f"box {size} 0 0\nbox\n", BadText, 2)
            self.check(f"box {size} 0 0", BadText, 1)
        self.assertEqual(self.judge("box 1000 1000 0 0\n"), "right")
        for many, part in ((40, None), (41, -1), (42, -1), (500, -1)):
            text = "".join(f"box 1 1 0 {edge}\n" for edge in range(many))
            self.assertEqual(self.judge(text), "right" if part is None else "boxes")
        self.check("".join(f"box 1 1 0 {edge}\n" for edge in range(40)) + "box 0 1 0 0\n", BadBoxes, -1)

    def test_no_picture_comes_behind_no_boxes(self):
        self.check("box 2 1 0 0\nbox 2 1 1 0\n", NoPicture)
        self.check("box 2 1 0 0\nbox 0 1 1 0\n", BadBoxes, 1)
        self.check("box 2 1 0 0\nbox 2 1 1 0\nbox 2 1 1 \n", BadText, 3)

    def test_spoiled_texts(self):
        counts = {}
        for text in spoiled_texts(TEXT, "0- 1b\n") + spoiled_texts("box 1 1 -5 5\n", "09-+ x\n"):
            kind = self.judge(text)
            counts[kind] = counts.get(kind, 0) + 1
        self.assertGreater(min(counts[kind] for kind in ("text", "boxes", "right")), 20, counts)

    def test_long_strings(self):
        for text in ("9" * 20000, "box " * 5000, "\n" * 20000, "box 1 1 0 0\n" * 1600, " " * 20000):
            self.judge(text)


class ScriptText(unittest.TestCase):

    def judge(self, boxes, script):
        text = script_text(boxes, script)
        self.assertEqual(text, "".join(f"{way} {' '.join(spell(goal) for goal in goals)}\n" for way, goals in script))
        if all(abs(goal) < 10 ** 9 for _, goals in script for goal in goals):
            self.assertEqual(read_script(boxes, text), script)
            self.assertIs(type(read_script(boxes, text)), tuple)

    def test_the_empty_script(self):
        self.assertEqual(script_text(TWO, ()), "")
        self.assertEqual(read_script(TWO, ""), ())

    def test_strokes_free_or_not(self):
        self.assertEqual(script_text(TWO, SCRIPT), LINES)
        self.judge(TWO, SCRIPT)
        self.judge(TWO, (("level", (0, 0)), ("level", (9, -9))))
        self.judge(Boxes(((1, 1),)), (("upright", (0,)),))
        self.judge(Boxes(((1, 1),) * 40), (("level", tuple(range(-20, 20))), ("upright", (7,) * 40)))

    def test_200_strokes(self):
        self.judge(TWO, SCRIPT * 100)
        self.assertIs(type(raised(script_text, (TWO, SCRIPT * 100 + SCRIPT[:1]))), NoScript)

    def test_numbers_of_any_size(self):
        for far in (10 ** 9, 10 ** 20 - 1, 10 ** 60, 10 ** 300 + 1):
            self.judge(TWO, (("level", (far, -far)), ("upright", (-far, far))))

    def test_what_is_no_script(self):
        def right(thing):
            return type(thing) is tuple and len(thing) <= 200 and all(oracles.right_stroke(SIZES, item) for item in thing)
        check_kinds(self, script_text, (TWO, SCRIPT), 1, right, NoScript, [SCRIPT * 101, list(SCRIPT), SCRIPT[0]])

    def test_scripts_of_many_kinds(self):
        samples = Samples(112)
        for _ in range(60):
            sizes = samples.sizes(samples.number(1, 5))
            script = samples.script(sizes, samples.picture(sizes), samples.number(0, 6))
            self.judge(Boxes(sizes), script)


class ReadScript(unittest.TestCase):

    def judge(self, text, many=2):
        boxes = Boxes(((1, 1),) * many)
        error = raised(read_script, (boxes, text))
        line = text_oracles.bad_script_line(text)
        if line is not None:
            self.assertEqual((type(error), getattr(error, "line", None)), (BadText, line), repr(text))
            return "text"
        script = tuple(
            (words[0], tuple(int(word) for word in words[1:])) for words in (each.split() for each in text.split("\n")[:-1]))
        if len(script) > 200 or not all(len(goals) == many for _, goals in script):
            self.assertIs(type(error), NoScript, repr(text))
            return "script"
        self.assertEqual(read_script(boxes, text), script)
        return "right"

    def test_right_ones(self):
        self.assertEqual(read_script(TWO, LINES), SCRIPT)
        self.assertEqual(self.judge(LINES), "right")

    def test_numbers_and_what_is_none(self):
        for word, way, place in product(RIGHT + WRONG, ("level", "upright"), (0, 1)):
            words = ["5", "6"]
            words[place] = word
            self.assertEqual(self.judge(f"{way} {' '.join(words)}\n"), "text" if word in WRONG else "right", word)

    def test_lines_without_the_form(self):
        for line in (
            "", " ", "level", "level ", "upright", " level 1 2", "level 1 2 ", "level  1 2", "level 1  2", "Level 1 2", "LEVEL 1 2",
            "lev 1 2", "levels 1 2", "box 1 2", "1 2", "level,1,2", "level1 2", "leveluprigt 1 2", "level upright 1 2", "level 1 2;",
            "le vel 1 2", "level 1 2\r",
        ):
            for text, number in ((line + "\n", 1), (LINES + line + "\n", 3), (line + "\n" + LINES, 1), (LINES[:10] + line + "\n\n", 2)):
                self.assertEqual(self.judge(text), "text", repr(text))
                self.assertEqual(raised(read_script, (TWO, text)).line, number, repr(text))

    def test_the_last_line_feed_lacking_and_something_behind_it(self):
        for text, number in ((LINES[:-1], 2), ("level 1 2", 1), (LINES + "level 1 2", 3), (LINES + " ", 3), ("\n", 1), (" ", 1)):
            self.assertEqual(self.judge(text), "text")
            self.assertEqual(raised(read_script, (TWO, text)).line, number)

    def test_too_few_and_too_many_goals(self):
        for many, goals in product((1, 2, 3, 40), (1, 2, 3, 39, 40, 41)):
            text = "level" + " 7" * goals + "\n"
            self.assertEqual(self.judge(text, many), "right" if many == goals else "script")
            self.assertEqual(self.judge("upright" + " 0" * many + "\n" + text, many), "right" if many == goals else "script")
            self.assertEqual(self.judge(text + "level\n", many), "text")

    def test_200_and_201_strokes(self):
        for many, kind in ((199, "right"), (200, "right"), (201, "script"), (1000, "script")):
            self.assertEqual(self.judge("level 1 2\n" * many), kind)
        self.assertEqual(self.judge("level 1 2\n" * 201 + "x\n"), "text")

    def test_spoiled_texts(self):
        counts = {}
        for text in spoiled_texts("level 0 5\nupright -1 12345678\n", "0- 1e\n"):
            kind = self.judge(text)
            counts[kind] = counts.get(kind, 0) + 1
        self.assertGreater(min(counts[kind] for kind in ("text", "script", "right")), 10, counts)


if __name__ == "__main__":
    unittest.main()
