"""The live page: 8.2."""

import unittest
from itertools import product

import list_oracles
import oracles
from fourstrokes.boards import fewest
from fourstrokes.boxes import Boxes
from fourstrokes.columns import barring, column_script
from fourstrokes.errors import (
    Barred, BadBoxes, Full, Last, NoBox, NoPicture, NoPlaces, NoRoom, NoSize, NoStroke, NotFree, NothingDone, NotWithin,
    NoWidth,
)
from fourstrokes.pages import Page
from page_oracles import PageModel, PageSamples
from things import nested, spoiled, strange_things
from wrongs import check_due, check_kinds, raised

SIZES = ((2, 1), (2, 1))
TWO = Boxes(SIZES)
SIDE = ((0, 0), (2, 0))
TURNED = ((2, 0), (0, 0))
PILE = ((0, 0), (0, 1))
HEAP = ((0, 1), (0, 0))
UPON = ((0, 0), (1, 0))


def look(page):
    return (page.boxes().sizes, page.picture(), page.width(), page.deeds(), page.strokes())


def fields(error):
    """The class of an error and what it tells, None for none."""
    return None if error is None else (type(error), *vars(error).values())


class Judging(unittest.TestCase):

    def do(self, page, deed, *arguments):
        """Does a deed on a page; what is refused changes nothing."""
        ahead = (look(page), self.past_and_future(page))
        error = raised(getattr(page, deed), arguments)
        if error is not None:
            self.assertEqual((look(page), self.past_and_future(page)), ahead)
        return fields(error)

    def past_and_future(self, page):
        """What a page looks like behind each deed, to the beginning and to the end."""
        other = page.copy()
        past = [look(other)]
        while raised(other.undo, ()) is None:
            past.append(look(other))
        future = [look(other)]
        while raised(other.redo, ()) is None:
            future.append(look(other))
        self.assertEqual(future[:len(past)], past[::-1])
        return future

    def check(self, page, model):
        """A page looks as the model does."""
        self.assertEqual(look(page), model.look())
        self.assertIs(type(page.boxes()), Boxes)
        self.assertEqual(page.boxes(), Boxes(model.done[-1][0]))

    def both(self, sizes, picture, width, deeds):
        """A page behind deeds, each a tuple (deed, arguments ..), done as by the model."""
        page, model = Page(Boxes(sizes), picture, width), PageModel(sizes, picture, width)
        for deed, *arguments in deeds:
            self.assertEqual(self.do(page, deed, *arguments), model.do(deed, arguments), (deed, arguments))
            self.check(page, model)
        return page


class Pages(Judging):

    def test_a_board_and_a_column(self):
        for width in (None, 4, 5, 10 ** 6):
            page = Page(TWO, SIDE, width)
            self.assertEqual(look(page), (SIZES, SIDE, width, 0, 0))
            self.assertIs(type(page.boxes()), Boxes)
            self.assertIs(type(page.picture()), tuple)

    def test_a_board_has_no_sides(self):
        far = ((-(10 ** 20) + 1, 0), (10 ** 20 - 1, 5))
        self.assertEqual(Page(TWO, far, None).picture(), far)

    def test_what_is_no_picture(self):
        def right(thing):
            return oracles.right_picture(SIZES, thing)
        check_kinds(self, Page, (TWO, SIDE, None), 1, right, NoPicture, [UPON])

    def test_what_is_no_width(self):
        def right(thing):
            return thing is None or list_oracles.right_width(SIZES, thing)
        check_kinds(self, Page, (TWO, PILE, 4), 2, right, NoWidth, [0, 1, -1, 10 ** 6 + 1, "2", "board", (4,)])
        self.assertIs(type(raised(Page, (Boxes(((1, 1),)), ((0, 0),), True))), NoWidth)

    def test_what_is_not_within(self):
        for picture, width, right in (
            (SIDE, 4, True), (SIDE, 3, False), (PILE, 2, True), (((-1, 0), (0, 1)), 9, False), (((0, -9), (7, 9)), 9, True),
            (((0, -9), (8, 9)), 9, False), (((5, 0), (0, 1)), 6, False),
        ):
            self.assertIs(type(raised(Page, (TWO, picture, width))), type(None) if right else NotWithin)

    def test_errors_in_their_order(self):
        for picture, width in ((UPON, 1), (None, True), (((9, 0), (9, 0)), 4)):
            self.assertIs(type(raised(Page, (TWO, picture, width))), NoPicture)
        self.assertIs(type(raised(Page, (TWO, SIDE, 1))), NoWidth)
        self.assertIs(type(raised(Page, (TWO, ((-9, 0), (9, 0)), "4"))), NoWidth)
        check_due(self, Page, (TWO, PILE, 4), [(1, UPON, NoPicture), (2, 0, NoWidth), (1, ((3, 0), (0, 0)), NotWithin)])

    def test_equal_to_nothing_else(self):
        page = Page(TWO, SIDE, None)
        for thing in strange_things():
            self.assertIs(page == thing, False)
        self.assertIs(page == page, True)


class Strokes(Judging):

    def test_free_ones_are_done(self):
        page = self.both(SIZES, SIDE, None, [
            ("stroke", ("level", (1, 4))), ("stroke", ("upright", (9, -9))), ("stroke", ("level", (4, 1))),
        ])
        self.assertEqual(look(page), (SIZES, ((4, 9), (1, -9)), None, 3, 3))

    def test_one_that_changes_nothing_counts(self):
        page = self.both(SIZES, SIDE, 4, [("stroke", ("level", (0, 2))), ("stroke", ("upright", (0, 0)))])
        self.assertEqual(look(page), (SIZES, SIDE, 4, 2, 2))

    def test_what_is_no_stroke(self):
        def right(thing):
            return oracles.right_stroke(SIZES, thing)
        check_kinds(self, Page(TWO, SIDE, 4).stroke, (("level", (0, 2)),), 0, right, NoStroke)

    def test_what_is_not_free_and_what_is_not_within(self):
        for stroke, told in (
            (("level", (2, 0)), (NotFree, 0)), (("level", (0, 1)), (NotFree, 0)), (("level", (5, 0)), (NotFree, 0)),
            (("level", (-1, 2)), (NotWithin,)), (("level", (0, 3)), (NotWithin,)), (("upright", (-99, 99)), None),
        ):
            self.assertEqual(self.do(Page(TWO, SIDE, 4), "stroke", stroke), told, stroke)
        self.assertIsNone(self.do(Page(TWO, SIDE, None), "stroke", ("level", (-1, 3))))


class Leads(Judging):

    def test_on_a_board_by_as_few_strokes_as_can_be(self):
        crossed = ((2, 1), (2, 1), (1, 2), (1, 2))
        for sizes, one, other, many in (
            (SIZES, SIDE, SIDE, 0), (SIZES, SIDE, ((0, 0), (9, 0)), 1), (SIZES, SIDE, PILE, 2), (SIZES, SIDE, TURNED, 3),
            (crossed, ((0, 0), (2, 0), (0, 5), (0, 7)), ((2, 0), (0, 0), (0, 7), (0, 5)), 4),
        ):
            page = self.both(sizes, one, None, [("lead", other)])
            self.assertEqual(look(page), (sizes, other, None, 1, many))
            self.assertEqual(fewest(Boxes(sizes), one, other), many)

    def test_in_a_column_by_column_script(self):
        for one, other in ((SIDE, SIDE), (SIDE, PILE), (PILE, HEAP), (HEAP, TURNED), (TURNED, SIDE)):
            page = self.both(SIZES, one, 4, [("lead", other)])
            self.assertEqual(look(page), (SIZES, other, 4, 1, len(column_script(TWO, 4, one, other))))
            self.assertLessEqual(page.strokes(), 2 * 2 + 4)

    def test_a_barred_way(self):
        self.assertEqual(self.do(Page(TWO, PILE, 3), "lead", HEAP), (Barred, 0, 1))
        self.assertIsNone(self.do(Page(TWO, PILE, 3), "lead", ((1, 5), (0, 7))))
        self.assertIsNone(self.do(Page(TWO, PILE, None), "lead", HEAP))

    def test_the_least_pair_bars(self):
        sizes = ((1, 1), (2, 1), (3, 1), (3, 1))
        page = Page(Boxes(sizes), ((0, 0), (0, 1), (0, 2), (0, 3)), 4)
        for order, pair in (((0, 1, 3, 2), (2, 3)), ((0, 2, 1, 3), (1, 2)), ((1, 3, 2, 0), (1, 2)), ((2, 0, 1, 3), None)):
            goal = tuple((0, edge) for edge in order)
            self.assertEqual(barring(Boxes(sizes), 4, page.picture(), goal), pair)
            self.assertEqual(self.do(page.copy(), "lead", goal), pair and (Barred, *pair))

    def test_what_is_no_picture_and_what_is_not_within(self):
        def right(thing):
            return oracles.right_picture(SIZES, thing)
        check_kinds(self, Page(TWO, PILE, 3).lead, (PILE,), 0, right, NoPicture, [UPON])
        page = Page(TWO, PILE, 3)
        for goal, error in ((UPON, NoPicture), (((9, 9), (9, 9)), NoPicture), (SIDE, NotWithin), (((0, 1), (2, 0)), NotWithin)):
            self.assertEqual(self.do(page, "lead", goal), (error,))


class Nudges(Judging):

    def nudge(self, sizes, picture, width, *arguments):
        """How many strokes a nudge takes, or the error."""
        page = Page(Boxes(sizes), picture, width)
        model = PageModel(sizes, picture, width)
        told = self.do(page, "nudge", *arguments)
        self.assertEqual(told, model.do("nudge", arguments))
        self.check(page, model)
        return page.strokes() if told is None else told[0]

    def test_none_one_two_strokes(self):
        for x, y, many in ((2, 0, 0), (5, 0, 1), (2, 3, 1), (2, -3, 1), (5, 3, 2), (-4, 1, 2), (0, 1, 2), (0, 0, NoRoom)):
            self.assertEqual(self.nudge(SIZES, SIDE, None, 1, x, y), many, (x, y))

    def test_each_way_about(self):
        unit = ((1, 1),) * 3
        # From (0, 0) to (2, 2), box 0, with another one in the way of the level-first way, of the upright-first way.
        for one, other, found in (
            ((9, 9), (8, 8), 2), ((1, 0), (9, 9), 2), ((0, 1), (9, 9), 2), ((2, 0), (9, 9), 2), ((2, 1), (9, 9), 2),
            ((1, 0), (0, 1), NoRoom), ((2, 1), (1, 2), NoRoom), ((2, 0), (0, 2), NoRoom), ((1, 0), (1, 2), NoRoom),
            ((0, 1), (2, 1), NoRoom), ((2, 2), (9, 9), NoRoom), ((1, 1), (9, 9), 2), ((0, 1), (0, 2), 2), ((1, 0), (2, 1), 2),
        ):
            for width in (None, 10):
                self.assertEqual(self.nudge(unit, ((0, 0), one, other), width, 0, 2, 2), found, (one, other))

    def test_one_stroke_with_a_box_in_the_way(self):
        unit = ((1, 1),) * 2
        self.assertEqual(self.nudge(unit, ((0, 0), (1, 0)), None, 0, 3, 0), NoRoom)
        self.assertEqual(self.nudge(unit, ((0, 0), (0, 1)), None, 0, 0, 3), NoRoom)
        self.assertEqual(self.nudge(unit, ((0, 0), (0, -1)), None, 0, 0, -3), NoRoom)
        self.assertEqual(self.nudge(unit, ((0, 0), (-1, 0)), None, 0, 3, 0), 1)
        self.assertEqual(self.nudge(unit, ((0, 0), (1, 0)), None, 0, 0, 3), 1)

    def test_many_boxes_in_the_way(self):
        sizes = ((1, 1),) * 40
        ring = [(x, y) for x, y in product(range(-3, 4), repeat=2) if max(abs(x), abs(y)) == 3]
        picture = tuple([(0, 0)] + ring + [(50, edge) for edge in range(40 - 1 - len(ring))])
        for goal, found in (((2, 2), 2), ((-2, 1), 2), ((0, 2), 1), ((4, 4), NoRoom), ((3, 0), NoRoom), ((0, 4), NoRoom)):
            self.assertEqual(self.nudge(sizes, picture, None, 0, *goal), found)
        self.assertEqual(self.nudge(sizes, picture, None, 39, 4, 60), 2)
        self.assertEqual(self.nudge(sizes, picture, None, 39, 0, 2), NoRoom)

    def test_out_of_the_column(self):
        for x, y, found in ((-1, 0, NoRoom), (-1, 5, NoRoom), (4, 1, NoRoom), (3, 1, 2), (0, 10 ** 19, 1), (0, -5, 1)):
            self.assertEqual(self.nudge(SIZES, PILE, 5, 0, x, y), NoRoom if (x, y) == (0, 10 ** 19) else found)
        self.assertEqual(self.nudge(SIZES, PILE, 5, 1, 0, 10 ** 19), 1)
        self.assertEqual(self.nudge(SIZES, PILE, 2, 1, 0, -10 ** 19), NoRoom)

    def test_a_nudge_that_changes_nothing_counts(self):
        page = self.both(SIZES, SIDE, 4, [("nudge", 0, 0, 0), ("nudge", 1, 2, 0)])
        self.assertEqual(look(page), (SIZES, SIDE, 4, 2, 0))

    def test_what_is_no_box_and_no_place(self):
        for place, right, error in ((0, lambda thing: oracles.integer(thing) and 0 <= thing <= 1, NoBox),
                                    (1, oracles.integer, NoPlaces), (2, oracles.integer, NoPlaces)):
            for width in (None, 4):
                more = [2, -1, 0, 1, True, "0", (0,)]
                check_kinds(self, Page(TWO, PILE, width).nudge, (0, 0, 0), place, right, error, more)
        check_due(self, Page(TWO, PILE, 4).nudge, (0, 0, 0), [
            (0, 2, NoBox), (1, None, NoPlaces), (2, True, NoPlaces), (1, -1, NoRoom), (2, 1, NoRoom),
        ])


class Sizes(Judging):

    def test_grow_to_a_smaller_the_same_and_a_greater_size(self):
        page = self.both(SIZES, SIDE, 5, [("grow", 0, 1, 1), ("grow", 0, 1, 1), ("grow", 1, 3, 9), ("grow", 0, 2, 1000)])
        self.assertEqual(look(page), (((2, 1000), (3, 9)), SIDE, 5, 4, 0))

    def test_grow_without_room(self):
        for arguments, told in (
            ((0, 3, 1), (NoRoom,)), ((0, 2, 9), None), ((1, 3, 1), (NoRoom,)), ((0, 5, 1), (NoWidth,)), ((1, 4, 1), (NoRoom,)),
            ((1, 5, 1), (NoWidth,)), ((0, 4, 1), (NoRoom,)), ((1, 1000, 1), (NoWidth,)), ((1, 1, 1000), None),
        ):
            self.assertEqual(self.do(Page(TWO, SIDE, 4), "grow", *arguments), told, arguments)
        self.assertIsNone(self.do(Page(TWO, SIDE, None), "grow", 1, 1000, 1000))
        self.assertEqual(self.do(Page(TWO, PILE, None), "grow", 0, 1, 2), (NoRoom,))
        self.assertEqual(self.do(Page(TWO, PILE, 4), "grow", 0, 5, 2), (NoWidth,))

    def test_what_is_no_size(self):
        def right(thing):
            return oracles.integer(thing) and 1 <= thing <= 1000
        more = [0, -1, 1, 1000, 1001, 10 ** 19]
        page = Page(Boxes(((1, 1),)), ((0, 0),), None)
        for place in (1, 2):
            check_kinds(self, page.grow, (0, 1, 1), place, right, NoSize, more)
        for place in (0, 1):
            check_kinds(self, Page(TWO, SIDE, None).add, (1, 1, 9, 9), place, right, NoSize, more)
        check_kinds(self, page.grow, (0, 1, 1), 0, lambda thing: oracles.integer(thing) and thing == 0, NoBox)

    def test_grow_errors_in_their_order(self):
        check_due(self, Page(TWO, PILE, 4).grow, (0, 2, 1), [
            (0, 2, NoBox), (1, 0, NoSize), (2, 1001, NoSize), (1, 5, NoWidth), (2, 2, NoRoom),
        ])
        check_due(self, Page(TWO, ((0, 0), (3, 0)), 5).grow, (1, 2, 1), [
            (0, None, NoBox), (1, "2", NoSize), (2, 0, NoSize), (1, 6, NoWidth), (1, 3, NoRoom),
        ])


class Adds(Judging):

    def test_a_box_more_has_the_greatest_number(self):
        page = self.both(SIZES, SIDE, 9, [("add", 1, 5, 4, -3), ("add", 9, 1, 0, 7)])
        self.assertEqual(look(page), (SIZES + ((1, 5), (9, 1)), SIDE + ((4, -3), (0, 7)), 9, 2, 0))

    def test_without_room(self):
        for arguments, told in (
            ((1, 1, 3, 0), (NoRoom,)), ((1, 1, 4, 0), None), ((1, 1, 5, 0), (NoRoom,)), ((1, 1, -1, 9), (NoRoom,)),
            ((6, 1, 0, 9), (NoWidth,)), ((6, 1, 0, 0), (NoWidth,)), ((5, 1, 0, 1), None), ((5, 1, 0, 0), (NoRoom,)),
            ((4, 1, 0, -1), None), ((1, 1000, 4, -500), None), ((4, 9, 2, 9), (NoRoom,)),
        ):
            self.assertEqual(self.do(Page(TWO, SIDE, 5), "add", *arguments), told, arguments)
        self.assertIsNone(self.do(Page(TWO, SIDE, None), "add", 1000, 1000, -1000, 10 ** 19))

    def test_up_to_the_40th_box_and_the_41st(self):
        for width in (None, 5):
            page = Page(Boxes(((1, 1),)), ((0, 0),), width)
            for number in range(1, 40):
                self.assertIsNone(self.do(page, "add", 1, 1, number % 5, number))
            self.assertEqual((page.boxes().many, page.deeds()), (40, 39))
            for arguments in ((1, 1, 0, 99), (9, 1, 0, 99), (1, 1, 0, 0), (1, 1, -1, 0)):
                self.assertEqual(self.do(page, "add", *arguments), (Full,))
            self.assertEqual(self.do(page, "add", 0, 1, 0, 99), (NoSize,))
            self.assertEqual(self.do(page, "add", 1, 1, 0, None), (NoPlaces,))
            page.drop(0)
            self.assertIsNone(self.do(page, "add", 1, 1, 0, 99))

    def test_what_is_no_place(self):
        for place in (2, 3):
            check_kinds(self, Page(TWO, SIDE, None).add, (1, 1, 9, 9), place, oracles.integer, NoPlaces)

    def test_errors_in_their_order(self):
        check_due(self, Page(TWO, SIDE, 5).add, (1, 1, 0, 9), [
            (0, 0, NoSize), (1, 0, NoSize), (2, True, NoPlaces), (3, None, NoPlaces), (0, 6, NoWidth), (2, 5, NoRoom),
            (3, 0, NoRoom),
        ])
        full = Page(Boxes(((1, 1),) * 40), tuple((0, edge) for edge in range(40)), 5)
        self.assertEqual(self.do(full, "add", "1", 1, None, 0), (NoSize,))
        self.assertEqual(self.do(full, "add", 1000, 1, 0, "0"), (NoPlaces,))


class Drops(Judging):

    def test_the_first_the_last_one_between(self):
        sizes, picture = ((1, 2), (3, 4), (5, 6)), ((0, 0), (10, 0), (20, 0))
        for box in (0, 1, 2):
            page = self.both(sizes, picture, None, [("drop", box)])
            self.assertEqual(look(page), (sizes[:box] + sizes[box + 1:], picture[:box] + picture[box + 1:], None, 1, 0))

    def test_the_only_one(self):
        page = self.both(SIZES, SIDE, 4, [("drop", 0), ("drop", 0), ("drop", 1), ("nudge", 0, 0, 0)])
        self.assertEqual(look(page), (((2, 1),), ((0, 0),), 4, 2, 1))
        self.assertEqual(self.do(page, "drop", 0), (Last,))
        self.assertEqual(self.do(page, "drop", 1), (NoBox,))

    def test_greater_numbers_are_one_less(self):
        self.both(((1, 1), (2, 2), (3, 3)), ((0, 0), (5, 0), (9, 0)), 20, [
            ("drop", 0), ("nudge", 1, 9, 9), ("grow", 0, 4, 4), ("nudge", 2, 0, 0), ("add", 1, 1, 0, 0), ("drop", 1),
            ("nudge", 1, 1, 0),
        ])

    def test_what_is_no_box(self):
        for boxes, picture, many in ((TWO, SIDE, 2), (Boxes(((1, 1),)), ((0, 0),), 1)):
            for thing in strange_things() + [many, -1, -many]:
                if not oracles.integer(thing) or not 0 <= thing < many:
                    self.assertEqual(fields(raised(Page(boxes, picture, None).drop, (thing,))), (NoBox,))


class BackAndForth(Judging):

    DEEDS = (
        ("stroke", ("level", (0, 4))), ("lead", HEAP), ("nudge", 0, 3, 5), ("grow", 1, 3, 3), ("add", 1, 1, 0, -7), ("drop", 0),
        ("stroke", ("upright", (4, -8))), ("nudge", 0, 1, 4), ("lead", ((0, 0), (4, 0))), ("drop", 1),
    )

    def test_each_kind_of_deed_to_the_beginning_and_to_the_end(self):
        for width in (None, 6):
            page = self.both(SIZES, SIDE, width, self.DEEDS)
            self.assertEqual(page.deeds(), len(self.DEEDS))
            self.both(SIZES, SIDE, width, self.DEEDS + (("undo",),) * 11 + (("redo",),) * 11)
            for many in range(len(self.DEEDS)):
                self.both(SIZES, SIDE, width, self.DEEDS[:many] + (("undo",), ("redo",), ("undo",), ("undo",), ("redo",)))

    def test_nothing_is_done_again_behind_a_new_deed(self):
        for many in range(1, len(self.DEEDS)):
            for new in (("stroke", ("upright", (-5, 5))), ("drop", 0), ("add", 1, 1, 0, -50), ("lead", SIDE), ("grow", 0, 1, 1)):
                self.both(SIZES, SIDE, 6, self.DEEDS + (("undo",),) * many + (new, ("redo",), ("undo",), ("redo",), ("undo",)))

    def test_what_is_refused_leaves_what_can_be_done_again(self):
        page = self.both(SIZES, SIDE, 6, self.DEEDS[:5] + (("undo",), ("undo",)))
        for deed in (("stroke", None), ("stroke", ("level", (9, 9))), ("lead", UPON), ("lead", ((9, 0), (0, 9))), ("nudge", 9, 0, 0),
                     ("nudge", 0, "0", 0), ("nudge", 0, 99, 0), ("grow", 0, 0, 0), ("grow", 5, 1, 1), ("grow", 0, 7, 1),
                     ("add", 0, 1, 0, 0), ("add", 1, 1, 0, True), ("add", 7, 1, 0, 0), ("add", 1, 1, -1, 0), ("drop", 2)):
            self.assertIsNotNone(self.do(page, *deed), deed)
        self.assertIsNone(self.do(page, "redo"))
        self.assertIsNone(self.do(page, "redo"))
        self.assertEqual(self.do(page, "redo"), (NothingDone,))

    def test_nothing_at_the_beginning(self):
        page = Page(TWO, SIDE, None)
        self.assertEqual(self.do(page, "undo"), (NothingDone,))
        self.assertEqual(self.do(page, "redo"), (NothingDone,))

    def test_deeds_without_a_result(self):
        page = Page(TWO, SIDE, 6)
        for deed, *arguments in self.DEEDS + (("undo",), ("redo",)):
            self.assertIsNone(getattr(page, deed)(*arguments))

    def test_many_deeds(self):
        page = Page(TWO, SIDE, None)
        for number in range(1, 1001):
            page.stroke(("level", (0, 2 + number)))
        self.assertEqual(look(page), (SIZES, ((0, 0), (1002, 0)), None, 1000, 1000))
        for _ in range(1000):
            page.undo()
        self.assertEqual(look(page), (SIZES, SIDE, None, 0, 0))
        for _ in range(500):
            page.redo()
        self.assertEqual(look(page), (SIZES, ((0, 0), (502, 0)), None, 500, 500))

    def test_what_was_told_stays_as_it_was(self):
        page = Page(TWO, SIDE, 6)
        told = []
        for deed, *arguments in self.DEEDS + (("undo",),) * 9 + (("redo",),) * 3:
            told.append((page.boxes(), page.boxes().sizes, page.picture(), repr(page.picture())))
            getattr(page, deed)(*arguments)
        for boxes, sizes, picture, words in told:
            self.assertEqual((boxes.sizes, boxes.many, repr(picture)), (sizes, len(sizes), words))
        self.assertEqual((TWO.sizes, TWO.many), (SIZES, 2))

    def test_deeds_of_many_kinds(self):
        samples = PageSamples(101)
        counts = {}
        for turn in range(120):
            width = (None, 4, 5)[turn % 3]
            sizes = samples.sizes(samples.number(1, 4))
            picture = samples.picture(sizes) if width is None else samples.column_picture(sizes, width)
            page, model = Page(Boxes(sizes), picture, width), PageModel(sizes, picture, width)
            for _ in range(40):
                deed, arguments = samples.deed(model)
                told = model.do(deed, arguments)
                self.assertEqual(fields(raised(getattr(page, deed), arguments)), told, (deed, arguments, model.look()))
                self.check(page, model)
                counts[deed, told and told[0]] = counts.get((deed, told and told[0]), 0) + 1
            self.assertEqual(self.past_and_future(page)[:len(model.done)], [
                (*state[:2], width, number, state[2]) for number, state in enumerate(model.done)])
            self.assertEqual(len(self.past_and_future(page)), len(model.done) + len(model.undone))
        for kind in (("nudge", NoRoom), ("lead", Barred), ("lead", NotWithin), ("stroke", NotFree), ("stroke", NotWithin),
                     ("grow", NoRoom), ("grow", NoSize), ("add", NoRoom), ("drop", Last), ("redo", None), ("undo", None),
                     ("nudge", None), ("lead", None), ("stroke", None), ("grow", None), ("add", None), ("drop", None)):
            self.assertGreater(counts.get(kind, 0), 5, (kind, counts))


class Copies(Judging):

    def test_a_copy_goes_on_apart_with_all_deeds(self):
        for width in (None, 6):
            page = self.both(SIZES, SIDE, width, BackAndForth.DEEDS + (("undo",),) * 4)
            ahead = self.past_and_future(page)
            other = page.copy()
            self.assertIs(type(other), Page)
            self.assertIsNot(other, page)
            self.assertEqual((look(other), self.past_and_future(other)), (look(page), ahead))
            now = look(page)
            other.undo()
            other.drop(0)
            self.assertEqual((look(page), self.past_and_future(page)), (now, ahead))
            there = look(other)
            page.redo()
            page.redo()
            page.add(1, 1, 0, -99)
            self.assertEqual(look(other), there)
            self.assertEqual(len(self.past_and_future(other)), 7)
            self.assertEqual(len(self.past_and_future(page)), 10)

    def test_a_copy_of_a_copy(self):
        page = Page(TWO, SIDE, None)
        page.nudge(0, -5, 5)
        third = page.copy().copy()
        third.undo()
        self.assertEqual((look(third), look(page)[3:]), ((SIZES, SIDE, None, 0, 0), (1, 2)))
        third.redo()
        self.assertEqual(look(third), look(page))


class Trials(Judging):

    def setUp(self):
        self.page = self.both(SIZES, SIDE, 6, BackAndForth.DEEDS[:6] + (("undo",), ("undo",)))
        self.ahead = (look(self.page), self.past_and_future(self.page))

    def as_ahead(self):
        self.assertEqual((look(self.page), self.past_and_future(self.page)), self.ahead)

    def test_what_is_returned(self):
        for thing in strange_things() + [1.5, {1}, self.page]:
            self.assertIs(self.page.trying(lambda page: thing), thing)
        self.assertIsNone(self.page.trying(lambda page: page.undo()))
        self.assertIs(self.page.trying(lambda page: page), self.page)
        self.as_ahead()

    def test_deeds_undo_and_redo_within(self):
        for deeds in (
            [("drop", 0)], [("undo",)], [("redo",)], [("undo",), ("drop", 1), ("undo",), ("redo",)], [("undo",)] * 4, [],
            [("redo",), ("redo",), ("grow", 0, 1, 1), ("stroke", ("upright", (50, 0)))], [("add", 1, 1, 0, -9), ("undo",)],
            [("undo",)] * 4 + [("add", 1, 1, 0, -9), ("add", 1, 1, 0, -8)], [("lead", PILE)], [("nudge", 0, 0, -20)],
        ):
            model = PageModel(SIZES, SIDE, 6)
            for deed, *arguments in BackAndForth.DEEDS[:6] + (("undo",), ("undo",)) + tuple(deeds):
                model.do(deed, arguments)

            def action(page):
                for deed, *arguments in deeds:
                    getattr(page, deed)(*arguments)
                return look(page)
            self.assertEqual(self.page.trying(action), model.look())
            self.as_ahead()

    def test_an_error_goes_on(self):
        errors = [NoRoom(), ValueError("a"), KeyError(1), ZeroDivisionError(), StopIteration(), KeyboardInterrupt(), BadBoxes(3)]
        for error in errors:
            def action(page):
                page.drop(0)
                page.undo()
                page.undo()
                raise error
            with self.assertRaises(type(error)) as caught:
                self.page.trying(action)
            self.assertIs(caught.exception, error)
            self.as_ahead()

    def test_an_error_of_the_page_itself_goes_on(self):
        def action(page):
            page.drop(0)
            page.drop(0)
        self.assertEqual(fields(raised(self.page.trying, (action,))), (Last,))
        self.as_ahead()

    def test_trials_within_trials(self):
        def inner(page):
            page.add(1, 1, 0, -30)
            page.undo()
            page.undo()
            return look(page)

        def outer(page):
            page.drop(0)
            ahead = (look(page), self.past_and_future(page))
            found = page.trying(inner)
            self.assertEqual((look(page), self.past_and_future(page)), ahead)
            self.assertIsNotNone(raised(page.trying, (lambda page: page.drop(9),)))
            self.assertEqual((look(page), self.past_and_future(page)), ahead)
            page.undo()
            return found
        self.assertEqual(self.page.trying(outer)[3], 4)
        self.as_ahead()

    def test_a_copy_made_within(self):
        def action(page):
            page.drop(0)
            other = page.copy()
            page.undo()
            return other, look(other), self.past_and_future(other)
        other, now, whole = self.page.trying(action)
        self.as_ahead()
        self.assertEqual((look(other), self.past_and_future(other)), (now, whole))
        other.undo()
        other.add(1, 1, 0, -70)
        self.as_ahead()

    def test_a_copy_that_is_led_within(self):
        other = self.page.copy()
        self.page.trying(lambda page: other.drop(0))
        self.as_ahead()
        self.assertEqual((other.deeds(), other.boxes().many), (5, 1))

    def test_deeds_behind_a_trial(self):
        self.page.trying(lambda page: page.drop(0))
        self.page.redo()
        self.assertEqual(self.page.deeds(), 5)
        self.page.trying(lambda page: page.undo())
        self.page.drop(2)
        self.assertEqual((self.page.deeds(), len(self.past_and_future(self.page))), (6, 7))


class Wrong(Judging):

    CALLS = {
        "stroke": (("level", (0, 2)),), "lead": (PILE,), "nudge": (0, 0, -5), "grow": (0, 1, 1), "add": (1, 1, 0, 9), "drop": (0,),
    }

    def test_whatever_is_passed_only_the_errors_named_are_raised(self):
        named = {
            "stroke": (NoStroke, NotFree, NotWithin), "lead": (NoPicture, NotWithin, Barred), "nudge": (NoBox, NoPlaces, NoRoom),
            "grow": (NoBox, NoSize, NoWidth, NoRoom), "add": (NoSize, NoPlaces, Full, NoWidth, NoRoom), "drop": (NoBox, Last),
        }
        things = strange_things()
        for number, (deed, right) in enumerate(self.CALLS.items()):
            page = Page(TWO, SIDE, 4)
            for thing, other in product(things, things[number::17]):
                for place in range(len(right)):
                    arguments = list(right)
                    arguments[place - 1] = other
                    arguments[place] = thing
                    error = raised(getattr(page.copy(), deed), arguments)
                    self.assertIn(type(error), named[deed] + (type(None),), (deed, arguments))
            self.assertEqual(look(page), (SIZES, SIDE, 4, 0, 0))

    def test_spoiled_strokes_and_pictures(self):
        page = Page(TWO, SIDE, 4)
        for thing in spoiled(("level", (0, 2))):
            error = NoStroke if not oracles.right_stroke(SIZES, thing) else None
            if error is not None:
                self.assertEqual(self.do(page, "stroke", thing), (error,))
        for thing in spoiled(PILE):
            if not oracles.right_picture(SIZES, thing):
                self.assertEqual(self.do(page, "lead", thing), (NoPicture,))

    def test_things_nested_40_deep(self):
        for thing in (nested(39, lambda thing: (thing, 0), 0), nested(38, lambda thing: ("level", thing), (0, 0))):
            self.assertEqual(self.do(Page(TWO, SIDE, 4), "stroke", thing), (NoStroke,))


if __name__ == "__main__":
    unittest.main()
