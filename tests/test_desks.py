"""The desk: 10.1, 10.2."""

import unittest
from itertools import product

from desk_oracles import DeskModel, line_words
from fourstrokes.desks import Desk
from fourstrokes.errors import (
    BadBoxes, BadScene, BadText, Barred, Full, Last, NoBox, NoContents, NoLine, NoName, NoPicture, NoRoom, NoScene, NoSize,
    NoStroke, NotFree, NothingDone, NotWithin, NoWidth, StrokeError, TooMany,
)
from oracles import Samples
from text_oracles import spoiled_texts
from things import strange_things
from wrongs import raised

SIDE = "box 2 1 0 0;box 2 1 2 0;"
PILE = "box 2 1 0 0;box 2 1 0 1;"
ROW = "cells 1;routine;while c0 < 2;put c0 2c0 1;set 0 c0+1;end;"
AT = "cells 2;routine;put 0 c0 0;put 1 c1 1;"
BEGIN = (
    f"page a board {SIDE}", f"page b 4 {PILE}", f"page c board box 1 1 0 0;", f"page both 5 {PILE}", f"scene row {ROW}",
    f"scene at {AT}", f"scene both {AT}", "nudge a 1 5 5", "nudge b 0 2 -1", "nudge b 0 2 -2", "undo b",
)
# One line of each form, right behind these.
RIGHT = [
    f"page a board {PILE}", f"page new 9 {PILE}", f"scene new {ROW}", f"scene at {ROW}", "level a 0 -5", "upright a 3 4",
    "nudge a 0 -9 9", "grow a 1 3 3", "add a 1 2 -9 -9", "drop a 1", "lead a row 0", "lead b at 2 0", "undo a", "redo b",
    "show a", "text b", "source row", "strokes a", "deeds b", "far a b", "far b c", "lead both both 0 3",
]


def tells(desk, line):
    """What a desk tells, or the class of the error and its fields."""
    try:
        return desk.tell(line)
    except StrokeError as error:
        return (type(error), *vars(error).values())


def begun(lines=BEGIN, kind=Desk):
    """A desk behind lines that are all right."""
    desk = kind()
    for line in lines:
        assert desk.tell(line) == "ok"
    return desk


def look(desk, names=("a", "b", "c", "both", "new")):
    """What a desk tells of all that is kept under these names."""
    lines = [f"{word} {name}" for name in names for word in ("text", "strokes", "deeds", "source")]
    return [tells(desk, line) for line in lines + ["source row", "source at"]]


class Judging(unittest.TestCase):

    def judge(self, line, lines=BEGIN):
        """A line does and tells what it should; if it is wrong nothing changes. What it tells is returned."""
        desk, model = begun(lines), begun(lines, DeskModel)
        ahead = look(desk)
        told = tells(desk, line)
        self.assertEqual(told, tells(model, line), repr(line))
        if type(told) is str:
            self.assertEqual(look(desk), look(model), repr(line))
        else:
            self.assertEqual(look(desk), ahead, repr(line))
        for name in ("a", "b"):
            for word in ("redo", "redo", "undo", "undo", "undo"):
                self.assertEqual(tells(desk, f"{word} {name}"), tells(model, f"{word} {name}"), repr(line))
                self.assertEqual(tells(desk, f"text {name}"), tells(model, f"text {name}"), repr(line))
        return told

    def check(self, line, told, lines=BEGIN):
        self.assertEqual(self.judge(line, lines), told, repr(line))


class Forms(Judging):

    def test_each_form_right(self):
        for line in RIGHT:
            self.assertIs(type(self.judge(line)), str, line)

    def test_what_each_form_tells(self):
        for line, told in zip(RIGHT, (
            "ok", "ok", "ok", "ok", "ok", "ok", "ok", "ok", "ok", "ok", "2", "3", "ok", "ok",
            "AA;;;;;     BB;", "box 2 1 2 -1;box 2 1 0 1;", ROW, "2", "1", "2", "unlike", "3",
        )):
            self.check(line, told)

    def test_what_each_form_does(self):
        for line, word, told in (
            (f"page a board {PILE}", "text a", PILE), (f"page new 9 {PILE}", "text new", PILE), (f"scene at {ROW}", "source at", ROW),
            ("level a 0 -5", "text a", "box 2 1 0 0;box 2 1 -5 5;"), ("upright a 3 4", "text a", "box 2 1 0 3;box 2 1 5 4;"),
            ("nudge a 0 -9 9", "text a", "box 2 1 -9 9;box 2 1 5 5;"), ("grow a 1 3 4", "text a", "box 2 1 0 0;box 3 4 5 5;"),
            ("add a 1 2 -9 -8", "text a", "box 2 1 0 0;box 2 1 5 5;box 1 2 -9 -8;"), ("drop a 0", "text a", "box 2 1 5 5;"),
            ("lead a row 0", "text a", "box 2 1 0 1;box 2 1 2 1;"), ("lead a row 0", "strokes a", "4"), ("undo a", "text a", SIDE),
            ("redo b", "text b", "box 2 1 2 -2;box 2 1 0 1;"), ("add a 1 1 9 9", "deeds a", "2"), ("add a 1 1 9 9", "strokes a", "2"),
        ):
            desk = begun()
            self.assertIs(type(desk.tell(line)), str)
            self.assertEqual(desk.tell(word), told, line)

    def test_a_line_wrong_in_each_word(self):
        words = [
            "", "A", "a", "abcdefgh", "abcdefghi", "aB", "a1", "a-", "-", "-1", "-0", "+1", "0", "00", "01", "1", "7", "board", "Board",
            "123456789", "1234567890", "-999999999", "-1234567890", "x;", ";", "1;1", "row", "at", "c0", "1.0", "0x1", "both", "zz",
        ]
        counts = {}
        for line in RIGHT:
            pieces = line.split(" ")
            for place in range(min(len(pieces), 6)):
                for word in words:
                    changed = " ".join(pieces[:place] + [word] + pieces[place + 1:])
                    told = self.judge(changed)
                    self.assertEqual(told == (NoLine,), line_words(changed) is None, changed)
                    kind = told[0] if type(told) is tuple else str
                    counts[kind] = counts.get(kind, 0) + 1
        self.assertGreater(min(counts[kind] for kind in (str, NoLine, NoName, NoBox, NoSize, BadText)), 5, counts)

    def test_too_few_and_too_many_words(self):
        for line in RIGHT:
            pieces = line.split(" ")
            for place in range(min(len(pieces), 6)):
                for words in (pieces[:place], pieces[:place] + pieces[place + 1:], pieces[:place] + ["1"] + pieces[place:],
                              pieces[:place] + ["a"] + pieces[place:], pieces[:place] + ["", ""] + pieces[place:]):
                    self.judge(" ".join(words))
            for more in (" 1", " a", " -1", "  1", " 1 1 1"):
                self.judge(line + more)

    def test_two_blanks_a_blank_at_the_front_and_at_the_end(self):
        for line in RIGHT:
            self.check(" " + line, (NoLine,))
            self.check(line + "\n", (NoLine,))
            self.check("\n" + line, (NoLine,))
            self.check(line.replace(" ", "  ", 1), (NoLine,))
            self.check(line.replace(" ", "\n", 1), (NoLine,))
            self.check(line.upper(), (NoLine,))
            if not line.startswith(("page", "scene")):
                self.check(line + " ", (NoLine,))
                self.check("  ".join(line.rsplit(" ", 1)), (NoLine,))

    def test_texts_are_all_that_is_left(self):
        self.check(f"page new board {SIDE} ", (BadText, 3))
        self.check(f"page new board  {SIDE}", (BadText, 1))
        self.check("page new board  ", (BadText, 1))
        self.check("page new board ", (NoLine,))
        self.check("page new board", (NoLine,))
        self.check("page new 4 ;", (BadText, 1))
        self.check("page new board x", (BadText, 1))
        self.check(f"page new board {SIDE[:-1]}", (BadText, 2))
        self.check("page new board board " + SIDE, (BadText, 1))
        self.check(f"scene new {ROW} ", (BadText, 7))
        self.check(f"scene new  {ROW}", (BadText, 1))
        self.check("scene new  ", (BadText, 1))
        self.check("scene new ", (NoLine,))
        self.check("scene new", (NoLine,))
        self.check("scene new ;;", (BadText, 1))
        self.check(f"scene new {ROW};", (BadText, 7))

    def test_names(self):
        for name in ("a", "z", "abcdefgh", "zzzzzzzz", "page", "board", "scene"):
            for lines in ((f"page {name} board {SIDE}", f"text {name}", SIDE), (f"scene {name} {ROW}", f"source {name}", ROW)):
                desk = Desk()
                self.assertEqual(desk.tell(lines[0]), "ok")
                self.assertEqual(desk.tell(lines[1]), lines[2])
        for name in ("", "abcdefghi", "A", "aA", "a1", "1", "-", "_", "a_b", "a;", "a.", "ab-c", "a" * 300):
            for line in (f"page {name} board {SIDE}", f"scene {name} {ROW}", f"text {name}", f"source {name}", f"far a {name}",
                         f"far {name} a", f"lead a {name} 0", f"lead {name} row 0", f"undo {name}", f"drop {name} 0"):
                self.check(line, (NoLine,))

    def test_what_is_no_string(self):
        desk = begun()
        ahead = look(desk)
        for thing in strange_things() + [(BEGIN[0],), [BEGIN[0]], BEGIN[0].encode()]:
            if type(thing) is not str or line_words(thing) is None:
                self.assertEqual(tells(desk, thing), (NoLine,))
        self.assertEqual(look(desk), ahead)

    def test_other_lines(self):
        for line in ("", " ", "a", "page", "pages", "help", "page a", "tell a", "far", "far a", "far a b c", "copy a", "trying a", "width a",
                     "picture a", "stroke a level 1 2", "lead a 0", "lead a row", "show", "show a b", "show a ", "ok", "board", ";", "level a",
                     "level a ", "level a 1  2", "undo", "undo a b", "level", "drop a", "drop a -1", "grow a 0 -1 1", "add a 1 1 1",
                     "add a -1 1 0 0", "nudge a -1 0 0", "grow a 1 1", "grow a 1 1 1 1", "far a  b", "source", "deeds", "x" * 20000):
            self.check(line, (NoLine,))

    def test_spoiled_lines(self):
        for line in ("nudge a 0 -9 9", "lead a at 0 7", "page a 4 box 1 2 0 -3;"):
            for spoiled in spoiled_texts(line, "a0- 7;b\n"):
                self.judge(spoiled)


class Names(Judging):

    def test_no_line_comes_ahead_of_no_name(self):
        for line in ("text zz ", "level zz", "level zz x", "nudge zz 0 0", "grow zz 0 0 -1", "lead zz row", "lead zz zz x", "far zz", "far zz Z",
                     "undo zz 1", "source zz a", "lead zz row 0 "):
            self.check(line, (NoLine,))

    def test_the_first_name_that_is_not_kept(self):
        for line, name in (
            ("far y z", "y"), ("far a z", "z"), ("far z a", "z"), ("lead y z 0", "y"), ("lead a z 0", "z"), ("lead z row 0", "z"),
            ("text z", "z"), ("source z", "z"), ("undo z", "z"), ("redo z", "z"), ("show z", "z"), ("strokes z", "z"), ("deeds z", "z"),
            ("level z 0 0", "z"), ("upright z 0 0", "z"), ("nudge z 0 0 0", "z"), ("grow z 0 1 1", "z"), ("add z 1 1 0 0", "z"), ("drop z 0", "z"),
        ):
            self.check(line, (NoName, name))

    def test_scenes_and_pages_have_names_of_their_own(self):
        for line, name in (
            ("text row", "row"), ("source a", "a"), ("lead row row 0", "row"), ("lead a a 0", "a"), ("lead at b 0", "at"), ("far a row", "row"),
            ("far at a", "at"), ("undo row", "row"), ("level at 0 0", "at"), ("show at", "at"), ("deeds row", "row"), ("lead a b 0", "b"),
        ):
            self.check(line, (NoName, name))
        self.check("text both", PILE)
        self.check("source both", AT)

    def test_no_name_comes_ahead_of_what_the_functions_raise(self):
        for line, name in (
            ("level z 0", "z"), ("nudge z 9 0 0", "z"), ("grow z 0 0 0", "z"), ("add z 0 0 0 0", "z"), ("drop z 99", "z"), ("lead a z 0 0 0", "z"),
            ("lead z row 0 0", "z"), ("far c z", "z"), ("lead c z 0", "z"),
        ):
            self.check(line, (NoName, name))

    def test_nothing_is_kept_at_the_beginning(self):
        for line in RIGHT:
            told = self.judge(line, ())
            if not line.startswith(("page", "scene")):
                self.assertEqual(told, (NoName, line.split(" ")[1]))

    def test_a_page_and_a_scene_in_the_place_of_an_elder_one(self):
        desk = begun()
        self.assertEqual(desk.tell(f"page a 9 {PILE}"), "ok")
        self.assertEqual([desk.tell(f"{word} a") for word in ("text", "strokes", "deeds")], [PILE, "0", "0"])
        self.assertEqual(tells(desk, "undo a"), (NothingDone,))
        self.assertEqual(tells(desk, "level a 0 9"), (NotWithin,))
        self.assertEqual(desk.tell(f"scene at {ROW}"), "ok")
        self.assertEqual(tells(desk, "lead a at 0 0"), (NoContents,))
        self.assertEqual(desk.tell("source at"), ROW)

    def test_what_is_wrong_leaves_the_elder_one(self):
        for line, told in (
            ("page a board box 1 1 0 0", (BadText, 1)), ("page a board box 0 1 0 0;", (BadBoxes, 0)), ("page a 1 " + SIDE, (NoWidth,)),
            ("page a board box 1 1 0 0;box 1 1 0 0;", (NoPicture,)), ("page a 3 " + SIDE, (NotWithin,)), ("page a 0 " + SIDE, (NoWidth,)),
            ("page a 1000001 " + SIDE, (NoWidth,)), ("page a 1000000 box 1 1 1000000 0;", (NotWithin,)),
            ("scene at cells 1", (BadText, 1)), ("scene at cells 1;", (BadScene, ("routines",))),
            ("scene at cells 1;routine;set 1 0;", (BadScene, ("routine", 0))), ("scene at cells 7;routine;", (BadText, 1)),
        ):
            self.check(line, told)

    def test_two_desks_are_apart(self):
        one, other = begun(), begun()
        one.tell("drop a 0")
        self.assertEqual(other.tell("text a"), "box 2 1 0 0;box 2 1 5 5;")
        self.assertEqual(tells(Desk(), "text a"), (NoName, "a"))


class Deeds(Judging):

    def test_what_the_functions_raise(self):
        for line, told in (
            ("level a 0", (NoStroke,)), ("level a 0 0 0", (NoStroke,)), ("upright both 0 0", (NotFree, 0)), ("level b 3 0", (NotWithin,)),
            ("nudge a 2 0 0", (NoBox,)), ("nudge a 0 5 5", (NoRoom,)), ("nudge b 0 3 0", (NoRoom,)), ("grow a 2 1 1", (NoBox,)),
            ("grow a 0 0 1", (NoSize,)), ("grow a 0 1 1001", (NoSize,)), ("grow b 0 5 1", (NoWidth,)), ("grow b 0 3 1", (NoRoom,)),
            ("add a 0 1 0 0", (NoSize,)), ("add a 1 1 0 0", (NoRoom,)), ("add b 5 1 0 9", (NoWidth,)), ("add b 1 1 4 9", (NoRoom,)),
            ("drop a 2", (NoBox,)), ("drop c 0", (Last,)), ("drop c 1", (NoBox,)), ("undo c", (NothingDone,)), ("redo a", (NothingDone,)),
            ("lead a row 0 0", (NoContents,)), ("lead a at 0", (NoContents,)), ("lead a row 1", (NoScene, "lacks")),
            ("lead a row -1", (NoScene, "fault")), ("lead c row 0", (NoScene, "fault")), ("lead b at 3 0", (NotWithin,)),
            ("lead b at -1 0", (NotWithin,)),
        ):
            self.check(line, told)

    def test_a_lead_that_is_barred_and_others_that_lead_nowhere(self):
        desk = begun((f"page b 3 {PILE}", "scene under cells 1;routine;put 0 0 c0;put 1 0 0;", "scene on cells 1;routine;while c0 = c0;end;"))
        self.assertEqual(tells(desk, "lead b under 5"), (Barred, 0, 1))
        self.assertEqual(tells(desk, "lead b under 0"), (NoScene, "overlaps"))
        self.assertEqual(tells(desk, "lead b on 0"), (NoScene, "on"))
        self.assertEqual(tells(desk, "lead b under -7"), "3")
        self.assertEqual(desk.tell("text b"), "box 2 1 0 -7;box 2 1 0 0;")

    def test_a_lead_by_none(self):
        desk = begun((f"page a board {SIDE}", f"scene at {AT}", "upright a 0 1"))
        self.assertEqual([desk.tell(line) for line in ("lead a at 0 2", "strokes a", "deeds a")], ["0", "1", "2"])

    def test_a_lead_behind_changed_boxes(self):
        desk = begun((f"page a board {SIDE}", f"scene row {ROW}", "drop a 0", "add a 1 1 9 9"))
        self.assertEqual(desk.tell("lead a row 0"), "2")
        self.assertEqual(desk.tell("text a"), "box 2 1 0 1;box 1 1 2 1;")

    def test_far(self):
        desk = begun((
            f"page a board {SIDE}", f"page b 4 {PILE}", "page c board box 2 1 2 0;box 2 1 0 0;", "page d board box 1 2 0 0;box 2 1 2 0;",
            "page e board box 2 1 0 0;", f"page f 9 {SIDE}",
        ))
        for line, told in (("a a", "0"), ("a b", "2"), ("a c", "3"), ("c a", "3"), ("a d", "unlike"), ("d a", "unlike"), ("a e", "unlike"),
                           ("a f", "0"), ("e e", "0")):
            self.assertEqual(desk.tell(f"far {line}"), told)
        desk.tell("drop a 1")
        self.assertEqual([desk.tell("far a e"), desk.tell("far a b")], ["0", "unlike"])
        self.assertEqual([desk.tell("strokes a"), desk.tell("deeds b")], ["0", "0"])

    def test_show_of_what_is_too_broad(self):
        desk = begun((f"page a board {SIDE}", "nudge a 1 199 0"))
        self.assertEqual(tells(desk, "show a"), (TooMany, 200))
        desk.tell("nudge a 1 198 0")
        self.assertEqual(desk.tell("show a"), "AA" + " " * 196 + "BB;")

    def test_the_41st_box(self):
        desk = begun(("page a 1 box 1 1 0 0;",) + tuple(f"add a 1 1 0 {edge}" for edge in range(1, 40)))
        self.assertEqual(tells(desk, "add a 1 1 0 40"), (Full,))
        self.assertEqual([desk.tell("deeds a"), desk.tell("strokes a")], ["39", "0"])

    def test_strokes_and_deeds_behind_all(self):
        desk = begun((f"page a 9 {SIDE}", f"scene row {ROW}"))
        for line, strokes, deeds in (
            ("level a 1 5", 1, 1), ("upright a 0 4", 2, 2), ("nudge a 0 1 0", 2, 3), ("nudge a 0 7 7", 4, 4), ("nudge a 0 7 2", 5, 5),
            ("grow a 0 1 1", 5, 6), ("add a 1 1 0 0", 5, 7), ("drop a 2", 5, 8), ("undo a", 5, 7), ("undo a", 5, 6), ("undo a", 5, 5),
            ("undo a", 4, 4), ("undo a", 2, 3), ("redo a", 4, 4), ("redo a", 5, 5),
        ):
            self.assertEqual(desk.tell(line), "ok")
            self.assertEqual([desk.tell("strokes a"), desk.tell("deeds a")], [str(strokes), str(deeds)], line)
        told = desk.tell("lead a row 0")
        self.assertEqual([desk.tell("strokes a"), desk.tell("deeds a")], [str(5 + int(told)), "6"])

    def test_numbers_beyond_nine_figures_are_told(self):
        desk = begun((
            "page a board box 1 1 0 0;", "scene far cells 2;routine;while c0 < 30;set 1 1000c1-7;set 0 c0+1;end;put 0 c1 -c1;",
        ))
        worth = 1
        for _ in range(30):
            worth = 1000 * worth - 7
        self.assertEqual(desk.tell("lead a far 0 1"), "2")
        self.assertEqual(desk.tell("text a"), f"box 1 1 {worth} {-worth};")

    def test_lines_of_many_kinds(self):
        samples = Samples(141)
        counts = {}
        for _ in range(40):
            desk, model = Desk(), DeskModel()
            for _ in range(150):
                line = self.line(samples)
                told = tells(desk, line)
                self.assertEqual(told, tells(model, line), line)
                kind = (line.split(" ")[0], told[0] if type(told) is tuple else str)
                counts[kind] = counts.get(kind, 0) + 1
            self.assertEqual(look(desk, ("a", "b", "ab")), look(model, ("a", "b", "ab")))
        for word in ("page", "scene", "level", "upright", "nudge", "grow", "add", "drop", "lead", "undo", "redo", "show", "text", "source",
                     "strokes", "deeds", "far"):
            self.assertGreater(counts.get((word, str), 0), 5, (word, counts))
            if word not in ("page", "scene"):
                self.assertGreater(counts.get((word, NoName), 0), 5, (word, counts))

    def line(self, samples):
        """A line of any kind."""
        name, other = (("a", "b", "ab", "a", "b")[samples.number(0, 4)] for _ in range(2))

        def z():
            return samples.number(-3, 6)

        def k():
            return samples.number(0, 3)
        words = ("page", "page", "scene", "level", "level", "upright", "upright", "nudge", "nudge", "nudge", "grow", "add", "add", "drop", "lead",
                 "lead", "lead", "undo", "redo", "redo", "show", "text", "source", "strokes", "deeds", "far", "far")
        word = words[samples.number(0, len(words) - 1)]
        return f"{word} {name}" + {
            "page": lambda: f" {('board', 7, 4)[samples.number(0, 2)]} " + (SIDE, PILE, "box 1 1 3 3;", "box 1 1 0 0;x;")[k()],
            "scene": lambda: " " + (ROW, AT, AT, "cells 1;routine;put 0 c0 c0;")[k()],
            "level": lambda: f" {z()} {z()}" if k() else f" {z()}", "upright": lambda: f" {z()} {z()}" if k() else f" {z()}",
            "nudge": lambda: f" {k() // 2} {z()} {z()}", "grow": lambda: f" {k() // 2} {k()} {k()}",
            "add": lambda: f" {k()} {k()} {z()} {z()}", "drop": lambda: f" {k() // 2}",
            "lead": lambda: f" {other} {k()}" + (f" {z()}" if k() else ""), "far": lambda: f" {other}",
        }.get(word, str)()


class Whole(Judging):

    def test_texts_that_are_told_are_read_again(self):
        desk = begun()
        desk.tell("page new board " + desk.tell("text a"))
        self.assertEqual(desk.tell("far a new"), "0")
        desk.tell("scene new " + desk.tell("source at"))
        self.assertEqual(desk.tell("source new"), AT)

    def test_equal_lines_give_equal_answers(self):
        one, other = begun(), begun()
        for line in RIGHT + RIGHT[::-1]:
            self.assertEqual(tells(one, line), tells(other, line))

    def test_whatever_is_told_is_a_string(self):
        for line, other in product(RIGHT, RIGHT[4:]):
            desk = begun()
            for told in (tells(desk, line), tells(desk, other)):
                self.assertTrue(type(told) is str or issubclass(told[0], StrokeError))

    def test_equal_to_nothing_else(self):
        desk = Desk()
        for thing in strange_things():
            self.assertIs(desk == thing, False)
        self.assertIsNone(raised(desk.tell, (BEGIN[0],)))


if __name__ == "__main__":
    unittest.main()
