"""Scenes: 7.1."""

import unittest
from itertools import product

from fourstrokes.boxes import Boxes
from fourstrokes.errors import BadScene
from fourstrokes.scenes import Scene
from oracles import integer
from things import deep_things, nested, spoiled, strange_things
from wrongs import raised

SUM = (1, 0)
TEST = ("less", (1, 0), (0, 5))
SET = ("set", 0, SUM)
RIGHT = {
    "set": ("set", 1, (0, 1, -7)),
    "put": ("put", (1, 0, 0), (0, 0, 3), (0, 1000, -1000)),
    "ask": ("ask", 1, "left", (0, 0, 0)),
    "call": ("call", 1),
    "if": ("if", ("less", (1, 0, 0), (0, 0, 9)), (("set", 0, (1, 0, 1)),), ()),
    "while": ("while", ("same", (1, 0, 0), (0, 0, 9)), (("call", 0), ("call", 1))),
}


def depth_and_size(cells, routines, body):
    """How deep a body is nested and how many statements it holds, None for what is none, by the document's words."""
    def right_sum(thing):
        if type(thing) is not tuple or len(thing) != cells + 1:
            return False
        return all(integer(item) and abs(item) <= 1000 for item in thing)

    def right_test(thing):
        if type(thing) is not tuple or len(thing) != 3 or type(thing[0]) is not str:
            return False
        return thing[0] in ("less", "same") and right_sum(thing[1]) and right_sum(thing[2])

    def right_number(thing, many):
        return integer(thing) and 0 <= thing < many

    def inner(statement):
        """The bodies of a statement, None for what is no statement as far as it is none of them."""
        if type(statement) is not tuple or not statement or type(statement[0]) is not str:
            return None
        word, *rest = statement
        if word == "set" and len(rest) == 2:
            return () if right_number(rest[0], cells) and right_sum(rest[1]) else None
        if word == "put" and len(rest) == 3:
            return () if all(right_sum(item) for item in rest) else None
        if word == "ask" and len(rest) == 3:
            known = type(rest[1]) is str and rest[1] in ("width", "height", "left", "top")
            return () if known and right_number(rest[0], cells) and right_sum(rest[2]) else None
        if word == "call" and len(rest) == 1:
            return () if right_number(rest[0], routines) else None
        if word == "if" and len(rest) == 3 or word == "while" and len(rest) == 2:
            return rest[1:] if right_test(rest[0]) else None
        return None

    deepest, size = 1, 0
    waiting = [(body, 1)]
    while waiting:
        thing, depth = waiting.pop()
        if type(thing) is not tuple:
            return None
        deepest = max(deepest, depth)
        size += len(thing)
        for statement in thing:
            bodies = inner(statement)
            if bodies is None:
                return None
            waiting.extend((each, depth + 1) for each in bodies)
    return deepest, size


def right_routine(cells, routines, body):
    found = depth_and_size(cells, routines, body)
    return found is not None and found[0] <= 8 and found[1] <= 60


def whiles(depth, core=()):
    """A body nested so deep; the deepest one is the core."""
    return nested(depth - 1, lambda body: (("while", TEST, body),), core)


def ifs(depth, which):
    """A body nested so deep through the first or the second bodies of ifs."""
    return nested(depth - 1, lambda body: (("if", TEST, *((body, ()) if which == 0 else ((), body))),), ())


class Judging(unittest.TestCase):

    def part_of(self, cells, routines):
        """The part of the BadScene that these raise, None if they make a scene."""
        error = raised(Scene, (cells, routines))
        if error is None:
            scene = Scene(cells, routines)
            self.assertEqual((scene.cells, scene.routines), (cells, routines))
            return None
        self.assertIs(type(error), BadScene, (cells, routines))
        return error.part

    def judge_statement(self, thing, cells=2, many=2):
        """A statement, alone in a routine, is right or not as it should be; whether it is, is returned."""
        right = right_routine(cells, many, (thing,))
        self.assertEqual(self.part_of(cells, ((),) * (many - 1) + ((thing,),)), None if right else ("routine", many - 1))
        return right


class Cells(Judging):

    def test_1_to_5(self):
        for cells in (1, 2, 3, 4, 5):
            self.assertIsNone(self.part_of(cells, ((("set", cells - 1, (0,) * cells + (1,)),),)))
        for cells in (0, 6, -1, 7, 10 ** 19, -(10 ** 19)):
            self.assertEqual(self.part_of(cells, ((),)), ("cells",))

    def test_other_things(self):
        for thing in strange_things():
            if not integer(thing) or not 1 <= thing <= 5:
                self.assertEqual(self.part_of(thing, ((),)), ("cells",), thing)
                self.assertEqual(self.part_of(thing, None), ("cells",), thing)
                self.assertEqual(self.part_of(thing, (None,)), ("cells",), thing)
        for thing in (True, False, "1", (1,), [1], None, b"1", {1: 1}):
            self.assertEqual(self.part_of(thing, ((),)), ("cells",), thing)


class Routines(Judging):

    def test_1_to_5(self):
        for many in (1, 2, 3, 4, 5):
            self.assertIsNone(self.part_of(1, ((),) * many))
            self.assertIsNone(self.part_of(1, ((("call", many - 1),),) * many))
        for many in (0, 6, 7, 500):
            self.assertEqual(self.part_of(1, ((),) * many), ("routines",))
            self.assertEqual(self.part_of(1, (None,) * many), ("routines",))

    def test_what_is_no_tuple(self):
        for thing in strange_things() + [[()], [[]], {0: ()}, "a"]:
            if type(thing) is not tuple or not 1 <= len(thing) <= 5:
                self.assertEqual(self.part_of(1, thing), ("routines",), thing)

    def test_the_first_that_is_no_body(self):
        for thing in strange_things() + deep_things() + [[], [SET], None, SET, ([SET],), "", (SET, None)]:
            if not right_routine(1, 3, thing):
                self.assertEqual(self.part_of(1, (thing, (), ())), ("routine", 0), thing)
                self.assertEqual(self.part_of(1, ((SET,), thing, None)), ("routine", 1), thing)
                self.assertEqual(self.part_of(1, ((), (SET,), thing)), ("routine", 2), thing)
        self.assertEqual(self.part_of(1, ((),) * 4 + ((None,),)), ("routine", 4))

    def test_cells_come_ahead_of_routines(self):
        self.assertEqual(self.part_of(0, ()), ("cells",))
        self.assertEqual(self.part_of(True, (None,)), ("cells",))
        self.assertEqual(self.part_of(6, ((("set", 9, ()),),)), ("cells",))
        self.assertEqual(self.part_of(1, (None,) * 6), ("routines",))


class Statements(Judging):

    def test_each_is_right(self):
        for statement in RIGHT.values():
            self.assertTrue(self.judge_statement(statement))
        self.assertIsNone(self.part_of(2, (tuple(RIGHT.values()), tuple(RIGHT.values())[::-1])))

    def test_each_spoiled_in_each_of_its_parts(self):
        counts = [0, 0]
        for statement in RIGHT.values():
            for thing in spoiled(statement):
                counts[self.judge_statement(thing)] += 1
        self.assertGreater(counts[0], 1000)
        self.assertGreater(counts[1], 5)

    def test_cells_beyond(self):
        for cells in range(1, 6):
            for cell in range(-2, 8):
                for statement in (("set", cell, (0,) * (cells + 1)), ("ask", cell, "width", (0,) * (cells + 1))):
                    self.assertIs(self.judge_statement(statement, cells), 0 <= cell < cells)

    def test_routines_beyond(self):
        for many in range(1, 6):
            for routine in range(-2, 8):
                self.assertIs(self.judge_statement(("call", routine), 1, many), 0 <= routine < many)

    def test_flags_are_no_numbers(self):
        for statement in (
            ("set", False, SUM), ("set", True, (1, 0, 0)), ("ask", False, "top", SUM), ("call", False), ("call", True),
            ("set", 0, (True, 0)), ("set", 0, (0, False)), ("put", SUM, (0, True), SUM),
            ("while", ("less", (False, 0), SUM), ()), ("if", ("same", SUM, (0, True)), (), ()),
        ):
            self.assertFalse(self.judge_statement(statement, 1))
            self.assertFalse(self.judge_statement(statement, 2))

    def test_sums_too_short_and_too_long(self):
        for cells in range(1, 6):
            for size in range(0, 9):
                told = (1,) * size
                good = (0,) * (cells + 1)
                for statement in (
                    ("set", 0, told), ("put", told, good, good), ("put", good, told, good), ("put", good, good, told),
                    ("ask", 0, "height", told), ("if", ("less", told, good), (), ()), ("while", ("same", good, told), ()),
                ):
                    self.assertIs(self.judge_statement(statement, cells), size == cells + 1)

    def test_sums_with_numbers_at_the_limits(self):
        for number in (1000, -1000, 999, 0, 1001, -1001, 10 ** 19, -(10 ** 19)):
            for told in ((number, 0), (0, number)):
                for statement in (
                    ("set", 0, told), ("put", told, SUM, SUM), ("put", SUM, told, SUM), ("put", SUM, SUM, told),
                    ("ask", 0, "height", told), ("if", ("less", told, SUM), (), ()), ("while", ("same", SUM, told), ()),
                ):
                    self.assertIs(self.judge_statement(statement, 1), abs(number) <= 1000)

    def test_words(self):
        for word in ("width", "height", "left", "top"):
            self.assertTrue(self.judge_statement(("ask", 0, word, SUM), 1))
        for word in ("less", "same"):
            self.assertTrue(self.judge_statement(("while", (word, SUM, SUM), ()), 1))
        wrong = ["", "Width", "size", "right", "bottom", "x", "lef", "left ", "widthheight", "more", "equal", "Less", "set",
                 None, 0, b"left", b"less", ("left",), ["less"], "topleft", "lesssame", "es"]
        for word in wrong:
            self.assertFalse(self.judge_statement(("ask", 0, word, SUM), 1))
            self.assertFalse(self.judge_statement(("while", (word, SUM, SUM), ()), 1))
            self.assertFalse(self.judge_statement(("if", (word, SUM, SUM), (), ()), 1))
        for word in ("less", "same"):
            self.assertFalse(self.judge_statement(("ask", 0, word, SUM), 1))
        for word in ("Set", "", "loop", "else", "end", None, 0, ("set",), b"set", "setput", "sets", "cell", "body", ["set"]):
            for rest in ((0, SUM), (SUM, SUM, SUM), (0,), (TEST, ()), (TEST, (), ()), ()):
                self.assertFalse(self.judge_statement((word, *rest), 1))

    def test_tests_that_are_none(self):
        for told in (
            (), ("less",), ("less", SUM), ("less", SUM, SUM, SUM), ["less", SUM, SUM], ("less", [1, 0], SUM), None, "less",
            ("less", SUM, [1, 0]), ("less", 1, SUM), (SUM, "less", SUM), ("less", (1,), SUM), ("less", None, SUM), True,
        ):
            self.assertFalse(self.judge_statement(("while", told, ()), 1))
            self.assertFalse(self.judge_statement(("if", told, (), ()), 1))

    def test_bodies_that_are_none(self):
        for body in ([], [SET], None, SET, ([SET[0], 0, SUM],), (None,), "", 0, ((),), {}, ("set",), (SET, ("set",))):
            self.assertFalse(self.judge_statement(("while", TEST, body), 1))
            self.assertFalse(self.judge_statement(("if", TEST, body, ()), 1))
            self.assertFalse(self.judge_statement(("if", TEST, (), body), 1))
            self.assertFalse(self.judge_statement(("if", TEST, (("while", TEST, body),), ()), 1))

    def test_all_words_with_all_numbers_of_parts(self):
        for word, size in product(RIGHT, range(0, 6)):
            for part in (0, SUM, "left", TEST, (), (SET,)):
                self.judge_statement((word, *(part,) * size), 1)
            for statement in RIGHT.values():
                self.judge_statement((word, *statement[1:]))

    def test_a_statement_in_the_place_of_a_body_and_the_other_way_round(self):
        self.assertEqual(self.part_of(1, (SET,)), ("routine", 0))
        self.assertEqual(self.part_of(1, (((SET,),),)), ("routine", 0))
        self.assertEqual(self.part_of(1, ((),)), None)
        self.assertEqual(self.part_of(1, (((),),)), ("routine", 0))


class Nesting(Judging):

    def test_8_and_9_deep(self):
        for depth in range(1, 14):
            right = None if depth <= 8 else ("routine", 1)
            for body in (whiles(depth), ifs(depth, 0), ifs(depth, 1), whiles(depth, (SET, SET))):
                self.assertEqual(self.part_of(1, ((), body)), right, depth)
                self.assertEqual(self.part_of(1, ((), (SET, SET) + body + (SET,))), right, depth)

    def test_an_empty_body_counts_too(self):
        self.assertIsNone(self.part_of(1, (whiles(8, (SET,)),)))
        for statement in (("while", TEST, ()), ("if", TEST, (), ()), ("if", TEST, (), (SET,)), ("if", TEST, (SET,), ())):
            self.assertIsNone(self.part_of(1, (whiles(7, (statement,)),)))
            self.assertEqual(self.part_of(1, (whiles(8, (statement,)),)), ("routine", 0))

    def test_as_deep_as_things_may_be(self):
        self.assertEqual(self.part_of(1, (whiles(19),)), ("routine", 0))
        self.assertEqual(self.part_of(1, ((), ifs(19, 1))), ("routine", 1))
        for thing in deep_things():
            self.assertEqual(self.part_of(1, ((("while", TEST, thing),),)), ("routine", 0))
            self.assertEqual(self.part_of(1, ((("set", 0, thing),),)), ("routine", 0))

    def test_60_and_61_statements(self):
        for many in (59, 60, 61, 62, 500):
            right = None if many <= 60 else ("routine", 2)
            for body in (
                (SET,) * many, (("while", TEST, (SET,) * (many - 1)),), (("if", TEST, (), (SET,) * (many - 1)),),
                (SET,) * 20 + (("if", TEST, (SET,) * 15, (SET,) * 10),) + (SET,) * (many - 46),
                whiles(8, (SET,) * (many - 7)), whiles(3, (SET, ("if", TEST, (SET,) * (many - 6), (SET,)), SET)),
                (("while", TEST, ()),) * many, (("if", TEST, (), (SET,)),) * (many // 2) + (SET,) * (many - many // 2 * 2),
            ):
                self.assertEqual(depth_and_size(1, 3, body)[1], many)
                self.assertEqual(self.part_of(1, ((), (), body)), right, many)

    def test_60_statements_in_each_routine(self):
        self.assertIsNone(self.part_of(1, ((SET,) * 60,) * 5))
        self.assertEqual(self.part_of(1, ((SET,) * 60, (SET,) * 60, (SET,) * 61, (SET,) * 61, None)), ("routine", 2))

    def test_very_many_statements(self):
        self.assertEqual(self.part_of(1, ((("call", 0),) * 6000,)), ("routine", 0))
        self.assertEqual(self.part_of(1, ((SET,) * 3000 + (None,),)), ("routine", 0))


class Scenes(unittest.TestCase):

    def test_cells_and_routines_are_kept(self):
        routines = (tuple(RIGHT.values()), (), (("call", 2),))
        scene = Scene(2, routines)
        self.assertEqual(scene.cells, 2)
        self.assertIs(type(scene.cells), int)
        self.assertEqual(scene.routines, routines)
        self.assertIs(type(scene.routines), tuple)

    def test_equal_to_just_the_same(self):
        every = [
            (1, ((),)), (2, ((),)), (1, ((), ())), (1, ((SET,),)), (1, ((SET, SET),)), (1, ((SET,), ())), (1, ((), (SET,))),
            (1, ((("set", 0, (0, 1)),),)), (2, ((("call", 0),),)), (1, ((("call", 0),),)), (1, (whiles(8),)),
            (1, ((("while", TEST, ()),),)), (1, ((("while", ("same", *TEST[1:]), ()),),)), (1, ((("if", TEST, (), ()),),)),
        ]
        for (number, one), (place, other) in product(enumerate(every), enumerate(every)):
            self.assertIs(Scene(*one) == Scene(*other), number == place)
            self.assertIs(Scene(*one) != Scene(*other), number != place)

    def test_equal_to_nothing_of_another_kind(self):
        scene = Scene(1, ((SET,),))
        for thing in strange_things() + [(1, ((SET,),)), [1, ((SET,),)], ((SET,),), 1, Boxes(((1, 1),)), 1.5, {1}, Scene]:
            self.assertIs(scene == thing, False)
            self.assertIs(thing == scene, False)
            self.assertIs(scene != thing, True)

        class Alike:
            cells = 1
            routines = ((SET,),)
        self.assertFalse(scene == Alike())

    def test_no_scene_where_other_things_are_due(self):
        scene = Scene(1, ((),))
        for cells, routines, part in ((scene, ((),), ("cells",)), (1, scene, ("routines",)), (1, (scene,), ("routine", 0))):
            error = raised(Scene, (cells, routines))
            self.assertEqual((type(error), error.part), (BadScene, part))


if __name__ == "__main__":
    unittest.main()
