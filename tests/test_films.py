"""Films: 8.1."""

import unittest
from fractions import Fraction

import oracles
from fourstrokes.boards import fewest
from fourstrokes.boxes import Boxes
from fourstrokes.errors import NoFilm, NoPicture, NoScript, NotFree, NoTime
from fourstrokes.films import film_script, shown
from fourstrokes.scripts import joined, led, pictures, taken_back
from fourstrokes.strokes import places_at
from oracles import Samples
from things import spoiled, strange_things
from wrongs import check_due, check_kinds, raised

TWO = Boxes(((2, 1), (2, 1)))
SIDE = ((0, 0), (2, 0))
TURNED = ((2, 0), (0, 0))
PILE = ((0, 0), (0, 1))
UPON = ((0, 0), (1, 0))


class Films(unittest.TestCase):

    def judge(self, sizes, film):
        """The script of a film leads through its pictures by as few strokes as fewest tells of each two neighbours."""
        boxes = Boxes(sizes)
        script = film_script(boxes, film)
        self.assertIs(type(script), tuple)
        self.assertTrue(oracles.right_script(sizes, film[0], script))
        trail = oracles.trail(film[0], script)
        at = 0
        for one, other in zip(film, film[1:]):
            many = fewest(boxes, one, other)
            self.assertEqual(many, oracles.fewest(sizes, one, other))
            self.assertEqual((trail[at], trail[at + many]), (one, other))
            at += many
        self.assertEqual(at, len(script))
        return script

    def test_one_picture(self):
        self.assertEqual(self.judge(TWO.sizes, (SIDE,)), ())

    def test_pictures_alike_side_by_side(self):
        self.assertEqual(self.judge(TWO.sizes, (SIDE, SIDE, SIDE)), ())
        self.assertEqual(len(self.judge(TWO.sizes, (SIDE, SIDE, TURNED, TURNED, SIDE))), 6)

    def test_the_strokes_are_not_joined(self):
        self.assertEqual(len(self.judge(TWO.sizes, (SIDE, ((1, 0), (3, 0)), ((5, 0), (9, 0)), SIDE))), 3)

    def test_thirty_and_thirty_one(self):
        film = (SIDE, TURNED, PILE) * 10
        self.judge(TWO.sizes, film)
        self.judge(TWO.sizes, (SIDE,) * 30)
        for wrong in (film + (SIDE,), film + (None,), (SIDE,) * 31, film * 100):
            error = raised(film_script, (TWO, wrong))
            self.assertEqual((type(error), error.index), (NoFilm, -1))

    def test_as_many_strokes_as_a_film_can_need(self):
        sizes = ((2, 1), (2, 1), (1, 2), (1, 2))
        pictures_ = [((0, 0), (2, 0), (0, 5), (0, 7)), ((2, 0), (0, 0), (0, 7), (0, 5))]
        self.assertEqual(fewest(Boxes(sizes), *pictures_), 4)
        self.assertEqual(len(self.judge(sizes, tuple(pictures_ * 15))), 29 * 4)

    def test_what_is_no_film(self):
        for thing in strange_things() + [(), [SIDE], [SIDE, PILE], {0: SIDE}, {SIDE: 0}]:
            if type(thing) is not tuple or not 1 <= len(thing) <= 30:
                error = raised(film_script, (TWO, thing))
                self.assertEqual((type(error), error.index), (NoFilm, -1), thing)

    def test_the_first_that_is_no_picture(self):
        for film, index in (
            ((UPON,), 0), ((SIDE, UPON), 1), ((UPON, UPON), 0), ((SIDE, SIDE, UPON, None), 2), ((SIDE, PILE, [PILE]), 2),
            ((SIDE,) * 29 + (UPON,), 29), ((None,) * 30, 0), (SIDE, 0), (PILE, 0), ((SIDE, (SIDE,)), 1), ((SIDE, TWO), 1),
        ):
            error = raised(film_script, (TWO, film))
            self.assertEqual((type(error), error.index), (NoFilm, index), film)
        for thing in spoiled((SIDE, PILE)):
            if type(thing) is tuple and thing:
                wrong = [index for index, item in enumerate(thing) if not oracles.right_picture(TWO.sizes, item)]
                error = raised(film_script, (TWO, thing))
                if len(thing) <= 30 and wrong:
                    self.assertEqual((type(error), error.index), (NoFilm, wrong[0]), thing)
                elif len(thing) <= 30:
                    self.assertIsNone(error)

    def test_films_of_many_kinds(self):
        samples = Samples(91)
        for _ in range(120):
            sizes, one, other = samples.shuffled()
            film = [one, other]
            while len(film) < samples.number(2, 9):
                film.append((one, other, samples.picture(sizes))[samples.number(0, 2)])
            script = self.judge(sizes, tuple(film))
            boxes = Boxes(sizes)
            self.assertEqual(led(boxes, one, script), film[-1])
            self.assertEqual(led(boxes, film[-1], taken_back(boxes, one, script)), one)
            self.assertEqual(led(boxes, one, joined(boxes, one, script)), film[-1])

    def test_equal_calls_give_equal_answers(self):
        self.assertEqual(film_script(TWO, (SIDE, TURNED, PILE)), film_script(Boxes(TWO.sizes), (SIDE, TURNED, PILE)))


class Shown(unittest.TestCase):

    SCRIPT = (("level", (1, 4)), ("upright", (0, 3)), ("level", (1, 4)), ("level", (-1, -2)))

    def judge(self, sizes, picture, script, time):
        """Where the boxes are at a time, told by Fractions."""
        trail = oracles.trail(picture, script)
        number = min(time.__floor__(), max(0, len(script) - 1))
        due = oracles.at(trail[number], script[number], time - number) if script else picture
        due = [tuple((Fraction(edge).numerator, Fraction(edge).denominator) for edge in place) for place in due]
        found = shown(Boxes(sizes), picture, script, (time.numerator, time.denominator))
        self.assertEqual(found, tuple(due), (script, time))
        self.assertIs(type(found), tuple)
        return found

    def test_at_0_at_whole_times_between_and_at_the_end(self):
        for quarters in range(17):
            self.judge(TWO.sizes, SIDE, self.SCRIPT, Fraction(quarters, 4))
        self.assertEqual(shown(TWO, SIDE, self.SCRIPT, (0, 1)), (((0, 1), (0, 1)), ((2, 1), (0, 1))))
        self.assertEqual(shown(TWO, SIDE, self.SCRIPT, (1, 2)), (((1, 2), (0, 1)), ((3, 1), (0, 1))))
        self.assertEqual(shown(TWO, SIDE, self.SCRIPT, (3, 2)), (((1, 1), (0, 1)), ((4, 1), (3, 2))))
        self.assertEqual(shown(TWO, SIDE, self.SCRIPT, (4, 1)), (((-1, 1), (0, 1)), ((-2, 1), (3, 1))))

    def test_fractions_are_reduced(self):
        self.assertEqual(shown(TWO, SIDE, (("level", (6, 8)),), (1, 3)), (((2, 1), (0, 1)), ((4, 1), (0, 1))))
        self.assertEqual(shown(TWO, SIDE, (("level", (-6, 8)),), (1, 4)), (((-3, 2), (0, 1)), ((7, 2), (0, 1))))

    def test_as_places_at_tells(self):
        ahead = pictures(TWO, SIDE, self.SCRIPT)
        for number, stroke in enumerate(self.SCRIPT):
            for top, bottom in ((0, 1), (1, 2), (1, 3), (5, 7)):
                time = (number * bottom + top, bottom)
                self.assertEqual(shown(TWO, SIDE, self.SCRIPT, time), places_at(TWO, ahead[number], stroke, (top, bottom)))
            self.assertEqual(shown(TWO, SIDE, self.SCRIPT, (number + 1, 1)), places_at(TWO, ahead[number], stroke, (1, 1)))

    def test_an_empty_script(self):
        self.assertEqual(shown(TWO, PILE, (), (0, 1)), (((0, 1), (0, 1)), ((0, 1), (1, 1))))
        for time in ((1, 1), (1, 2), (-1, 2), (1, 10 ** 19), (0, 2), 0):
            self.assertIs(type(raised(shown, (TWO, PILE, (), time))), NoTime, time)

    def test_200_strokes(self):
        script = (("level", (3, 7)), ("upright", (5, 5)), ("level", (0, 2)), ("upright", (0, 0))) * 50
        for time in (Fraction(0), Fraction(1, 10 ** 19), Fraction(399, 2), Fraction(200), Fraction(100), Fraction(1799, 9)):
            self.judge(TWO.sizes, SIDE, script, time)
        for time in ((201, 1), (401, 2), (200 * 10 ** 17 + 1, 10 ** 17)):
            self.assertIs(type(raised(shown, (TWO, SIDE, script, time))), NoTime)

    def test_large_numbers(self):
        far = 10 ** 20 - 1
        script = (("level", (-far, far)), ("upright", (far, -far)))
        for time in (Fraction(1, far), Fraction(far - 1, far), Fraction(far, far - 1), Fraction(2 * far - 1, far)):
            self.judge(TWO.sizes, SIDE, script, time)

    def test_a_time_beyond_below_0_and_not_reduced(self):
        for time in ((-1, 1), (-1, 2), (5, 1), (9, 2), (2, 2), (4, 2), (0, 2), (1, 0), (0, 0), (1, -1), (-1, -1), (0, -1)):
            self.assertIs(type(raised(shown, (TWO, SIDE, self.SCRIPT, time))), NoTime, time)
        for time in ((True, 1), (0, True), (False, 1), [0, 1], (0,), (0, 1, 1), 0, 1, "0", None, ("0", "1")):
            self.assertIs(type(raised(shown, (TWO, SIDE, self.SCRIPT, time))), NoTime, time)

    def test_what_is_no_time(self):
        def right(thing):
            if not oracles.integers(thing, 2) or thing[1] < 1 or not 0 <= thing[0] <= 4 * thing[1]:
                return False
            fraction = Fraction(thing[0], thing[1])
            return (fraction.numerator, fraction.denominator) == thing
        check_kinds(self, shown, (TWO, SIDE, self.SCRIPT, (1, 2)), 3, right, NoTime)

    def test_what_is_no_picture_and_no_script(self):
        def right_picture(thing):
            return oracles.right_picture(TWO.sizes, thing)

        def right_script(thing):
            return oracles.first_wrong(TWO.sizes, SIDE, thing) != "script"
        check_kinds(self, shown, (TWO, SIDE, (), (0, 1)), 1, right_picture, NoPicture)
        script = (("level", (1, 4)), ("upright", (0, 3)))
        check_kinds(self, shown, (TWO, SIDE, script, (0, 1)), 2, right_script, NoScript, [(script[0],) * 201])

    def test_the_first_stroke_that_is_not_free(self):
        cross = ("level", (9, 0))
        for script, number in (((cross,), 0), (self.SCRIPT[:1] + (cross, cross), 1), (self.SCRIPT[:2] + (cross,), None)):
            for time in ((0, 1), (1, 1), (99, 1), None):
                error = raised(shown, (TWO, SIDE, script, time))
                if number is None:
                    self.assertIs(type(error), NoTime if time in ((99, 1), None) else type(None))
                else:
                    self.assertEqual((type(error), error.number), (NotFree, number))

    def test_errors_in_their_order(self):
        check_due(self, shown, (TWO, SIDE, self.SCRIPT, (1, 2)), [
            (1, UPON, NoPicture), (2, (None,), NoScript), (2, (("level", (9, 0)),), NotFree), (3, (2, 2), NoTime),
        ])
        check_due(self, shown, (TWO, SIDE, self.SCRIPT, (1, 2)), [
            (1, None, NoPicture), (2, (("level", (9, 0)), ("level", (9,))), NoScript), (3, (9, 1), NoTime),
        ])

    def test_scripts_of_many_kinds(self):
        samples = Samples(92)
        for _ in range(150):
            sizes = samples.sizes(samples.number(1, 4))
            picture = samples.picture(sizes)
            script = samples.script(sizes, picture, samples.number(1, 5))
            bottom = samples.number(1, 12)
            self.judge(sizes, picture, script, Fraction(samples.number(0, bottom * len(script)), bottom))


if __name__ == "__main__":
    unittest.main()
