"""Texts of scenes: 9.2."""

import re
import unittest
from itertools import product

import text_oracles
from fourstrokes.boxes import Boxes
from fourstrokes.drawings import drawn
from fourstrokes.errors import BadScene, BadText
from fourstrokes.running import picture_of
from fourstrokes.scenes import Scene
from fourstrokes.sources import read_scene, scene_text
from run_oracles import SceneSamples
from text_oracles import spoiled_texts
from things import strange_things
from wrongs import raised

HEAD = "cells 3\nroutine\n"
WHOLE = """cells 2
routine
set 0 c0-2c1+7
put 0 c0 -c1
ask 1 width 3
call 1
if c0 < 5
set 0 -1
while c0 = c1
end
else
call 0
end
routine
"""
ROUTINES = (
    (
        ("set", 0, (1, -2, 7)), ("put", (0, 0, 0), (1, 0, 0), (0, -1, 0)), ("ask", 1, "width", (0, 0, 3)), ("call", 1),
        ("if", ("less", (1, 0, 0), (0, 0, 5)), (("set", 0, (0, 0, -1)), ("while", ("same", (1, 0, 0), (0, 1, 0)), ())),
         (("call", 0),)),
    ),
    (),
)


class Judging(unittest.TestCase):

    def judge(self, text):
        """A text is read as the patterns read it; whether it is a scene, or what is wrong, is returned."""
        error = raised(read_scene, (text,))
        kind, *told = text_oracles.read_scene(text)
        if kind == "line":
            self.assertEqual((type(error), getattr(error, "line", None)), (BadText, told[0]), repr(text))
            return "text"
        due = raised(Scene, told)
        if due is not None:
            self.assertEqual((type(error), getattr(error, "part", None)), (BadScene, due.part), repr(text))
            return "scene"
        self.assertIsNone(error, repr(text))
        scene = read_scene(text)
        self.assertEqual(scene, Scene(*told))
        self.assertEqual(read_scene(scene_text(scene)), scene)
        return "right"

    def check(self, text, kind, told):
        """A text is wrong in this way."""
        error = raised(read_scene, (text,))
        self.assertEqual((type(error), *vars(error).values()), (kind, told), repr(text))
        self.judge(text)

    def check_line(self, line, right, ahead=HEAD, behind=""):
        """A line can stand behind others, or not."""
        if right:
            self.assertIn(self.judge(ahead + line + "\n" + behind), ("right", "scene"), line)
        else:
            self.check(ahead + line + "\n" + behind, BadText, ahead.count("\n") + 1)

    def sum_of(self, word, cells=3):
        """The tuple that a sum is read as, or None."""
        self.check_line("set 0 " + word, re.fullmatch(text_oracles.sum_pattern(3), word) is not None)
        error = raised(read_scene, (f"cells {cells}\nroutine\nset 0 {word}\n",))
        if type(error) is BadText:
            self.assertEqual(error.line, 3)
            return None
        if type(error) is BadScene:
            self.assertEqual(error.part, ("routine", 0))
            return "great"
        return read_scene(f"cells {cells}\nroutine\nset 0 {word}\n").routines[0][0][2]


class SceneText(Judging):

    def judge_scene(self, cells, routines):
        scene = Scene(cells, routines)
        text = scene_text(scene)
        self.assertEqual(text, text_oracles.scene_text(cells, routines))
        again = read_scene(text)
        self.assertEqual((again, type(again)), (scene, Scene))
        self.assertEqual(self.judge(text), "right")
        return text

    def test_each_kind_of_statement(self):
        self.assertEqual(self.judge_scene(2, ROUTINES), WHOLE)
        for statement, line in (
            (("set", 1, (0, 1, 0)), "set 1 c1"), (("put", (0, 0, 1), (2, 0, 0), (0, 0, -3)), "put 1 2c0 -3"),
            (("ask", 0, "width", (0, 0, 1)), "ask 0 width 1"), (("ask", 0, "height", (0, 0, 1)), "ask 0 height 1"),
            (("ask", 1, "left", (1, 0, 0)), "ask 1 left c0"), (("ask", 1, "top", (1, 1, 1)), "ask 1 top c0+c1+1"),
            (("call", 0), "call 0"), (("while", ("less", (1, 0, 0), (0, 0, 9)), ()), "while c0 < 9\nend"),
            (("if", ("same", (1, 0, 0), (0, 0, 9)), (), ()), "if c0 = 9\nelse\nend"),
        ):
            self.assertEqual(self.judge_scene(2, ((statement,),)), f"cells 2\nroutine\n{line}\n")

    def test_bodies_within_bodies_and_empty_ones(self):
        test = ("less", (1, 0), (0, 5))
        call = ("call", 0)
        for body in (
            (), (("while", test, ()),), (("if", test, (), ()),), (("if", test, (call,), ()),), (("if", test, (), (call,)),),
            (("while", test, (("if", test, (("while", test, (call, call)), call), (("while", test, ()),)), call)), call),
            (("if", test, (("if", test, (call,), ()),), (("if", test, (), (call,)),)),),
        ):
            for routines in ((body,), ((), body), (body, (), body, ()), (body,) * 5):
                self.judge_scene(1, routines)
        self.assertEqual(self.judge_scene(1, ((), ())), "cells 1\nroutine\nroutine\n")

    def test_8_deep(self):
        for word in ("while", "if"):
            for which in (0, 1):
                body = ()
                for _ in range(7):
                    bodies = (body,) if word == "while" else ((body, ()) if which == 0 else ((), body))
                    body = (("call", 0), (word, ("same", (0, 0), (0, 0)), *bodies), ("call", 0))
                self.judge_scene(1, (body, body))

    def test_sums(self):
        for told, word in (
            ((0, 0), "0"), ((0, 5), "5"), ((0, -5), "-5"), ((1, 0), "c0"), ((-1, 0), "-c0"), ((2, 0), "2c0"), ((-2, 0), "-2c0"),
            ((1, 1), "c0+1"), ((1, -1), "c0-1"), ((-1, -1), "-c0-1"), ((1000, 1000), "1000c0+1000"),
            ((-1000, -1000), "-1000c0-1000"), ((0, 0, 0), "0"), ((1, 1, 0), "c0+c1"), ((0, 1, 0), "c1"), ((0, -1, 3), "-c1+3"),
            ((1, -1, 1), "c0-c1+1"), ((0, 0, 0, 0, 7, 0), "7c4"), ((1, 2, -3, -1, 0, 10), "c0+2c1-3c2-c3+10"),
            ((11, 10, 101, 0), "11c0+10c1+101c2"), ((0, 0, 1), "1"), ((0, -11, -1), "-11c1-1"),
        ):
            text = self.judge_scene(len(told) - 1, ((("set", 0, told),),))
            self.assertEqual(text, f"cells {len(told) - 1}\nroutine\nset 0 {word}\n")

    def test_all_sums_of_few_multiples(self):
        worths = (-1000, -2, -1, 0, 1, 2, 1000)
        for told in product(worths, repeat=3):
            self.judge_scene(2, ((("set", 1, told),),))

    def test_scenes_of_many_kinds(self):
        samples = SceneSamples(121)
        for _ in range(300):
            cells = samples.number(1, 5)
            self.judge_scene(cells, samples.routines(cells))

    def test_the_longest_scenes(self):
        told = (-1000, -1000, -1000, -1000, -1000, -1000)
        put = ("put", told, told, told)
        self.assertGreater(len(self.judge_scene(5, ((put,) * 60,) * 5)), 20000)
        self.judge_scene(5, ((("if", ("less", told, told), (), ()),) * 60,) * 5)


class Sums(Judging):

    def test_rows_of_terms(self):
        for word, told in (
            ("0", (0, 0, 0, 0)), ("+0", (0, 0, 0, 0)), ("-0", (0, 0, 0, 0)), ("5", (0, 0, 0, 5)), ("+5", (0, 0, 0, 5)),
            ("-5", (0, 0, 0, -5)), ("+c0", (1, 0, 0, 0)), ("-c2", (0, 0, -1, 0)), ("1c0", (1, 0, 0, 0)), ("0c0", (0, 0, 0, 0)),
            ("-0c1+0", (0, 0, 0, 0)), ("c0-c0", (0, 0, 0, 0)), ("c0+c0+c0", (3, 0, 0, 0)), ("1+2-4", (0, 0, 0, -1)),
            ("c2+c1+c0", (1, 1, 1, 0)), ("7+c1-3c0+2c1-7", (-3, 3, 0, 0)), ("1000c0-1000c0", (0, 0, 0, 0)),
            ("999999999c0-999999998c0", (1, 0, 0, 0)), ("123456789-123456789+1000", (0, 0, 0, 1000)), ("-1000", (0, 0, 0, -1000)),
        ):
            self.assertEqual(self.sum_of(word), told, word)

    def test_rows_that_come_to_more_than_1000(self):
        for word in ("1001", "-1001", "1001c0", "-1001c1", "1000+1", "c0+1000c0", "-1000c2-c2", "999999999", "999999999c0-1"):
            self.assertEqual(self.sum_of(word), "great", word)
        for word in ("1001-1", "1001c0-c0", "-1001c2+c2", "c0+999c0"):
            self.assertIs(type(self.sum_of(word)), tuple, word)

    def test_what_is_no_row_of_terms(self):
        for word in (
            "", "+", "-", "c", "c0+", "c0-", "5+", "++5", "--5", "+-5", "-+5", "c0++c1", "c0--1", "c0+-1", "c0c1", "c00", "c01", "00",
            "01", "-01", "c0+01", "007c0", "00c0", "c3", "c4", "c9", "c10", "2c3", "c0+c3", "1234567890", "1234567890c0", "c0-1234567890",
            "c1234567890", "1c", "c+1", "5c", "c-1", "C0", "0C1", "c0*2", "c0 + 1", "c0 1", "c0 +1", "c0 12", "5 ", " 5", "x", "1.5",
            "(1)", "c0;", "0x1", "1e3", "c0+1\r", "2 c0", "2c 0", "+ 5", "a", "c-0", "c+0", "0000000000", "9" * 100,
        ):
            self.assertIsNone(self.sum_of(word), repr(word))

    def test_cells_below_the_number_of_cells(self):
        for cells, cell in product(range(1, 6), range(0, 7)):
            found = self.judge(f"cells {cells}\nroutine\nset 0 5c{cell}\n")
            self.assertEqual(found, "right" if cell < cells else "text")

    def test_all_words_of_few_signs(self):
        kinds = {}
        for size in range(1, 5):
            for signs in product("c0129+- ", repeat=size):
                kind = self.judge("cells 2\nroutine\nput 0 0 " + "".join(signs) + "\n")
                kinds[kind] = kinds.get(kind, 0) + 1
        self.assertEqual(sorted(kinds), ["right", "scene", "text"])

    def test_sums_of_every_place(self):
        for word, right in (("-c0+5", True), ("c0+", False), ("0", True), ("c3", False)):
            for line, behind in (
                ("set 0 {}", ""), ("put {} 0 0", ""), ("put 0 {} 0", ""), ("put 0 0 {}", ""), ("ask 0 top {}", ""),
                ("while {} < 0", "end\n"), ("while 0 = {}", "end\n"), ("if {} = 0", "else\nend\n"), ("if 0 < {}", "else\nend\n"),
            ):
                self.check_line(line.format(word), right, HEAD, behind)


class Lines(Judging):

    def test_statements_that_have_not_the_form(self):
        for line in (
            "set", "set 0", "set 0 ", "set  0 1", "set 0  1", "set 0 1 ", " set 0 1", "set 0 1 2", "Set 0 1", "SET 0 1", "sets 0 1", "set c0 1",
            "set -1 1", "set +1 1", "set 00 1", "set 01 1", "set 1234567890 1", "set x 1", "set 0 = 1", "set0 1",
            "put", "put 0", "put 0 0", "put 0 0 0 0", "put 0 0 0 ", "put  0 0 0", "put 0 0  0", "put 0 0 x", "put 0,0,0",
            "ask", "ask 0", "ask 0 width", "ask 0 width 0 0", "ask 0 width 0 ", "ask 0 Width 0", "ask 0 right 0", "ask 0 bottom 0", "ask 0 x 0",
            "ask 0 widt 0", "ask 0 widths 0", "ask width 0 0", "ask c0 width 0", "ask 0 0 width", "ask -0 width 0", "ask 0  0", "ask 0 width",
            "call", "call ", "call 0 0", "call -1", "call +1", "call 00", "call c0", "call 1234567890", "calls 0", "call 0 ", "call x", "Call 0",
            "if", "if 0", "if 0 <", "if 0 < 0 0", "if 0 > 0", "if 0 <= 0", "if 0 == 0", "if 0 less 0", "if 0<0", "if < 0 0", "if 0 < 0 ",
            "if  0 < 0", "if 0  < 0", "if 0 <  0", "IF 0 < 0", "if 0 ! 0", "if 0 <= 0", "if 0 =< 0", "if 0  0", "if 0 < x",
            "while", "while 0", "while 0 <", "while 0 > 0", "while 0 < 0 0", "while 0<0", "while 0 < 0 ", "While 0 < 0", "while 0 0 <",
            "else ", " else", "end ", " end", "End", "ELSE", "routine ", " routine", "Routine", "routine 0", "routines", "end 0", "else 0",
            "", " ", "x", "0", "body", "same", "less", "cells", "cells 3", "\r", "loop", "cell 0", "sum", "test", "; set 0 1",
        ):
            self.check_line(line, False)
            self.check_line(line, False, HEAD + "set 0 1\nwhile c0 < 1\n", "end\n")
            self.check_line(line, False, HEAD + "if c0 < 1\nelse\ncall 0\n", "end\nroutine\n")

    def test_the_first_line(self):
        for cells in range(1, 6):
            self.assertEqual(self.judge(f"cells {cells}\nroutine\n"), "right")
        for line in (
            "cells 0", "cells 6", "cells 10", "cells -1", "cells +1", "cells 01", "cells", "cells ", "cells 1 ", " cells 1", "cells  1",
            "cells 1 1", "Cells 1", "cell 1", "cells c", "cells one", "cells 1234567890", "", "routine", "cells1", "cells 11",
        ):
            self.check_line(line, False, "", "routine\n")
            self.check_line(line, False, "", "cells 1\nroutine\n")

    def test_what_is_no_string(self):
        for thing in strange_things():
            if type(thing) is not str:
                error = raised(read_scene, (thing,))
                self.assertEqual((type(error), error.line), (BadText, 0))
            else:
                self.judge(thing)

    def test_lines_that_can_not_stand_there(self):
        for text, line in (
            ("cells 1\nset 0 1\nroutine\n", 2), ("cells 1\nwhile 0 < 0\nend\n", 2), ("cells 1\nend\n", 2), ("cells 1\nelse\n", 2),
            ("cells 1\ncells 1\nroutine\n", 2), (HEAD + "cells 3\n", 3), (HEAD + "end\n", 3), (HEAD + "else\n", 3),
            (HEAD + "while 0 < 0\nelse\nend\n", 4), (HEAD + "while 0 < 0\nend\nend\n", 5), (HEAD + "if 0 < 0\nend\n", 4),
            (HEAD + "if 0 < 0\nelse\nelse\nend\n", 5), (HEAD + "if 0 < 0\nelse\nend\nend\n", 6), (HEAD + "if 0 < 0\nelse\nend\nelse\n", 6),
            (HEAD + "if 0 < 0\nroutine\n", 4), (HEAD + "if 0 < 0\nelse\nroutine\nend\n", 5), (HEAD + "while 0 < 0\nroutine\nend\n", 4),
            (HEAD + "while 0 < 0\nif 0 < 0\nelse\nelse\nend\nend\n", 6), (HEAD + "if 0 < 0\nwhile 0 < 0\nelse\nend\nend\n", 5),
            (HEAD + "if 0 < 0\nelse\nwhile 0 < 0\nelse\n", 6), (HEAD + "if 0 < 0\nwhile 0 < 0\nend\nend\n", 6),
            ("routine\ncells 1\n", 1), ("set 0 1\ncells 1\nroutine\n", 1), (HEAD + "routine\nend\n", 4), (HEAD + "call 0\nroutine\nelse\n", 5),
        ):
            self.check(text, BadText, line)

    def test_what_lacks_at_the_end(self):
        for text, line in (
            ("", 1), ("cells 1", 1), ("cells 1\nroutine", 2), (HEAD + "call 0", 3), (HEAD + "while 0 < 0\n", 4), (HEAD + "if 0 < 0\n", 4),
            (HEAD + "if 0 < 0\nelse\n", 5), (HEAD + "if 0 < 0\nelse\nwhile 0 < 0\nend\n", 7), (HEAD + "while 0 < 0\nend", 4),
            (HEAD + "if 0 < 0\nelse\nend", 5), (HEAD + "x", 3), (HEAD + " ", 3), (HEAD + "routine", 3), ("\n", 1), ("x", 1),
        ):
            self.check(text, BadText, line)

    def test_the_first_wrong_line_is_told(self):
        self.check(HEAD + "x\ny\n", BadText, 3)
        self.check(HEAD + "end\nset 0 c9\n", BadText, 3)
        self.check(HEAD + "set 0 c9\nend\n", BadText, 3)
        self.check("cells 9\nroutine\nx", BadText, 1)
        self.check(HEAD + "while 0 < 0\nset 0\nroutine\n", BadText, 4)
        self.check(HEAD + "while 0 < 0\nset 0 0\nx", BadText, 5)

    def test_spoiled_texts(self):
        counts = {}
        for text in spoiled_texts(WHOLE, "0c-+ <e\n"):
            kind = self.judge(text)
            counts[kind] = counts.get(kind, 0) + 1
        self.assertGreater(min(counts[kind] for kind in ("text", "scene", "right")), 5, counts)

    def test_lines_of_many_kinds(self):
        samples = SceneSamples(122)
        lines = ["routine", "if 0 < c0", "while 1 = 1", "else", "end", "end", "else", "set 0 1", "call 0", "put 0 0 0", "set 3 0", "x"]
        counts = {}
        for turn in range(4000):
            many = samples.number(0, 9)
            text = "cells 1\nroutine\n" + "".join(lines[samples.number(0, 8 + turn % 4)] + "\n" for _ in range(many))
            kind = self.judge(text)
            counts[kind] = counts.get(kind, 0) + 1
        self.assertGreater(min(counts[kind] for kind in ("text", "scene", "right")), 40, counts)


class BadScenes(Judging):

    def test_cells_and_routines_of_any_size(self):
        for number in (3, 4, 5, 9, 10, 100, 999999999):
            for line in (f"set {number} 0", f"ask {number} width 0", f"call {number}"):
                self.check(HEAD + line + "\n", BadScene, ("routine", 0))
                self.check(HEAD + "routine\n" + line + "\nroutine\n" + line + "\n", BadScene, ("routine", 1))
                self.check(HEAD + line + "\nx\n", BadText, 4)
        self.assertEqual(self.judge(HEAD + "set 2 0\nask 2 top 0\ncall 0\n"), "right")

    def test_a_call_of_a_routine_behind(self):
        self.assertEqual(self.judge(HEAD + "call 4\n" + "routine\n" * 4), "right")
        self.check(HEAD + "call 4\n" + "routine\n" * 3, BadScene, ("routine", 0))

    def test_no_routine_five_and_six(self):
        self.check("cells 1\n", BadScene, ("routines",))
        self.assertEqual(self.judge("cells 1\n" + "routine\n" * 5), "right")
        self.check("cells 1\n" + "routine\n" * 6, BadScene, ("routines",))
        self.check("cells 1\n" + "routine\nset 7 0\n" * 6, BadScene, ("routines",))

    def test_bodies_nested_8_and_9_deep_and_by_the_dozen(self):
        for depth in (8, 9, 12, 24, 120, 600, 1000):
            for ahead, behind in (("while 0 < 0\n", "end\n"), ("if 0 < 0\n", "else\nend\n"), ("if 0 < 0\nelse\n", "end\n")):
                text = HEAD + ahead * (depth - 1) + behind * (depth - 1)
                if depth == 8:
                    self.assertEqual(self.judge(text), "right")
                else:
                    error = raised(read_scene, (text,))
                    self.assertEqual((type(error), error.part), (BadScene, ("routine", 0)), depth)
                error = raised(read_scene, (text + "x\n",))
                self.assertEqual((type(error), error.line), (BadText, text.count("\n") + 1))
                error = raised(read_scene, (HEAD + ahead * depth,))
                self.assertEqual((type(error), error.line), (BadText, 3 + ahead.count("\n") * depth))

    def test_60_and_61_statements(self):
        for many, kind in ((59, "right"), (60, "right"), (61, "scene"), (1000, "scene")):
            self.assertEqual(self.judge(HEAD + "call 0\n" * many), kind)
            self.assertEqual(self.judge(HEAD + "while 0 < 0\n" + "call 0\n" * (many - 1) + "end\n"), kind)
            self.assertEqual(self.judge(HEAD + "routine\n" + "if 0 < 0\nelse\nend\n" * many), kind)

    def test_the_first_routine_that_is_wrong(self):
        self.check(HEAD + "call 0\nroutine\nset 0 1001\nroutine\nset 9 0\n", BadScene, ("routine", 1))
        self.check(HEAD + "routine\nroutine\nroutine\nset 9 0\nroutine\nset 0 c0+1000+1\n", BadScene, ("routine", 3))


class Example(unittest.TestCase):

    def test_e09(self):
        two = Boxes(((2, 1), (2, 1)))
        scene = read_scene("cells 1\nroutine\nwhile c0 < 2\nput c0 2c0 0\nset 0 c0+1\nend\n")
        self.assertEqual(picture_of(scene, two, (0,)), ((0, 0), (2, 0)))
        self.assertEqual(drawn(two, ((0, 0), (2, 1))), "AA\n  BB\n")


if __name__ == "__main__":
    unittest.main()
