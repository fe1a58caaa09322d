"""Measures: beyond a slop [10], spread and turned [11], flung [12]."""

import copy
import itertools
import unittest

from strokeguess.measures import flung, is_beyond, is_spread, is_turned

WAYS = ("any", "across", "along")
BIG = 10 ** 30


class IsBeyond(unittest.TestCase):
    def told(self, way, dx, dy, slop, wanted):
        with self.subTest(way=way, dx=dx, dy=dy, slop=slop):
            self.assertIs(is_beyond(way, dx, dy, slop), wanted)

    def test_just_the_slop_and_one_more_by_either_sign(self):
        for slop in (0, 1, 2, 18, 50, 999, 1000):
            for sign in (1, -1):
                self.told("any", sign * slop, 0, slop, False)
                self.told("any", 0, sign * slop, slop, False)
                self.told("any", sign * (slop + 1), 0, slop, True)
                self.told("any", 0, sign * (slop + 1), slop, True)
                self.told("across", sign * slop, 0, slop, False)
                self.told("across", sign * (slop + 1), 0, slop, True)
                self.told("along", 0, sign * slop, slop, False)
                self.told("along", 0, sign * (slop + 1), slop, True)

    def test_nought(self):
        for way, slop in itertools.product(WAYS, (0, 1, 18, 1000)):
            self.told(way, 0, 0, slop, False)

    def test_across_and_along_look_at_one_of_both(self):
        for slop, far in itertools.product((0, 1, 18, 1000), (-20000, -1001, 1001, 20000)):
            self.told("across", 0, far, slop, False)
            self.told("across", slop, far, slop, False)
            self.told("across", -slop - 1, far, slop, True)
            self.told("along", far, 0, slop, False)
            self.told("along", far, -slop, slop, False)
            self.told("along", far, slop + 1, slop, True)

    def test_both_together_just_at_and_just_beyond(self):
        for dx, dy, slop in ((3, 4, 5), (30, 40, 50), (6, 8, 10), (600, 800, 1000), (280, 960, 1000), (5, 12, 13)):
            for one, other in itertools.product((1, -1), repeat=2):
                for x, y in ((one * dx, other * dy), (other * dy, one * dx)):
                    self.told("any", x, y, slop, False)
                    self.told("any", x, y, slop - 1, True)
                    self.told("any", x + (1 if x > 0 else -1), y, slop, True)
                    self.told("any", x, y + (1 if y > 0 else -1), slop, True)
                    self.told("across", x, y, slop, False)
                    self.told("along", x, y, slop, False)

    def test_any_against_squares(self):
        for dx, dy, slop in itertools.product(range(-6, 7), range(-6, 7), range(6)):
            self.told("any", dx, dy, slop, dx ** 2 + dy ** 2 > slop ** 2)

    def test_the_least_and_the_greatest_slop(self):
        for way in WAYS:
            self.told(way, 1, 1, 0, True)
            self.told(way, -1, -1, 0, True)
            self.told(way, 20000, -20000, 1000, True)
        self.told("any", 707, 707, 1000, False)
        self.told("any", 708, 707, 1000, True)
        self.told("across", 1000, 1001, 1000, False)
        self.told("along", 1001, 1000, 1000, False)


class IsSpread(unittest.TestCase):
    def told(self, first, other, wanted):
        with self.subTest(first=first, other=other):
            self.assertIs(is_spread(first, other), wanted)

    def test_just_25_to_16_and_beyond(self):
        # A square of 16 as of (4, 0), and one of 25 as of (5, 0), (3, 4).
        for other in ((5, 0), (-5, 0), (0, 5), (0, -5), (3, 4), (-3, -4), (4, -3)):
            self.told((4, 0), other, False)
            self.told((0, -4), other, False)
        for other in ((5, 1), (-5, 1), (1, 5), (1, -5), (6, 0)):
            self.told((4, 0), other, True)

    def test_just_16_to_25_and_beyond(self):
        for first in ((5, 0), (0, -5), (3, 4), (-4, 3)):
            for other in ((4, 0), (-4, 0), (0, 4), (0, -4)):
                self.told(first, other, False)
            for other in ((3, 2), (-3, 2), (2, -3), (3, 0), (0, 0), (1, 0)):
                self.told(first, other, True)

    def test_one_beyond_on_either_side(self):
        # 16 * 625 is 25 * 400: with a square of 626 it is beyond.
        self.told((20, 0), (25, 0), False)
        self.told((20, 0), (25, 1), True)
        self.told((20, 0), (24, 7), False)
        self.told((20, 0), (24, 6), False)
        self.told((20, 0), (16, 0), False)
        self.told((25, 0), (20, 0), False)
        self.told((25, 1), (20, 0), True)
        self.told((24, 6), (20, 0), False)
        # 16 * 64 is 1024, and 25 * 41 one more.
        self.told((5, 4), (8, 0), False)
        self.told((5, 4), (8, 1), True)
        self.told((8, 0), (5, 4), False)
        self.told((8, 1), (5, 4), True)
        self.told((400, 0), (500, 0), False)
        self.told((400, 0), (501, 0), True)
        self.told((400, 0), (320, 0), False)
        self.told((400, 0), (319, 0), True)

    def test_it_is_told_by_length_not_by_where_it_points(self):
        for other in ((0, 40), (-40, 0), (24, -32), (-32, 24)):
            self.told((40, 0), other, False)

    def test_nought(self):
        self.told((0, 0), (0, 0), False)
        for other in ((1, 0), (0, -1), (-20000, 20000)):
            self.told((0, 0), other, True)
            self.told(other, (0, 0), True)

    def test_against_squares(self):
        for fx, fy, x, y in itertools.product(range(-5, 6), repeat=4):
            before, behind = fx * fx + fy * fy, x * x + y * y
            self.assertIs(is_spread((fx, fy), (x, y)), 16 * behind > 25 * before or 16 * before > 25 * behind)

    def test_great_numbers(self):
        self.told((4 * BIG, 0), (5 * BIG, 0), False)
        self.told((4 * BIG, 0), (5 * BIG, 1), True)
        self.told((4 * BIG, 0), (3 * BIG, 4 * BIG), False)
        self.told((0, 5 * BIG), (4 * BIG, 0), False)
        self.told((0, 5 * BIG), (4 * BIG - 1, 0), True)
        self.told((1, 5 * BIG), (4 * BIG, 0), True)


class IsTurned(unittest.TestCase):
    def told(self, first, other, wanted):
        with self.subTest(first=first, other=other):
            self.assertIs(is_turned(first, other), wanted)

    def test_a_cross_that_is_just_the_dot_and_one_more(self):
        for sign in (1, -1):
            for length in (1, 7, 40, 10000):
                self.told((length, 0), (length, sign * length), False)
                self.told((length, 0), (length, sign * (length + 1)), True)
                self.told((length, 0), (length + 1, sign * length), False)
                self.told((0, length), (sign * length, length), False)
                self.told((0, length), (sign * (length + 1), length), True)
        # Cross and dot just one from one another: 13 and 13, 13 and 12, 12 and 13.
        self.told((3, 2), (1, 5), False)
        self.told((1, 0), (12, 13), True)
        self.told((1, 0), (12, -13), True)
        self.told((1, 0), (13, 12), False)
        self.told((1, 0), (13, -12), False)

    def test_where_it_points_not_how_long_it_is(self):
        for length in (1, 100, 20000):
            self.told((40, 0), (length, 0), False)
            self.told((40, 0), (0, length), True)
            self.told((40, 0), (0, -length), True)
            self.told((40, 0), (-length, 0), True)

    def test_a_dot_below_nought_and_of_nought(self):
        self.told((5, 0), (-5, 0), True)
        self.told((5, 0), (-1, 1), True)
        self.told((5, 5), (-5, -5), True)
        self.told((5, 0), (0, 1), True)
        self.told((5, 0), (0, -1), True)
        self.told((3, 4), (-4, 3), True)

    def test_nought(self):
        self.told((0, 0), (0, 0), False)
        for other in ((1, 0), (0, -1), (-20000, 20000)):
            self.told((0, 0), other, False)
            self.told(other, (0, 0), False)

    def test_against_cross_and_dot(self):
        for fx, fy, x, y in itertools.product(range(-4, 5), repeat=4):
            cross, dot = fx * y - fy * x, fx * x + fy * y
            self.assertIs(is_turned((fx, fy), (x, y)), cross > dot or -cross > dot)

    def test_great_numbers(self):
        self.told((BIG, 0), (BIG, BIG), False)
        self.told((BIG, 0), (BIG, -BIG), False)
        self.told((BIG, 0), (BIG, BIG + 1), True)
        self.told((BIG, 0), (BIG, -BIG - 1), True)
        self.told((BIG, BIG), (BIG, -1), True)
        self.told((BIG, BIG), (BIG, 0), False)
        self.told((BIG, BIG), (BIG, 1), False)


def stroke(*rows, up):
    """A stroke's touches by (moment, x, y), the first one its down, and its up."""
    touches = [(moment, 3, "move" if at else "down", x, y) for at, (moment, x, y) in enumerate(rows)]
    return touches + [(up[0], 3, "up", up[1], up[2])]


class Flung(unittest.TestCase):
    def test_the_last_touch_that_is_100_ahead(self):
        for ahead, wanted in ((101, (80, 0)), (100, (80, 0)), (99, (200, 0))):
            touches = stroke((0, 0, 0), (1000 - ahead, 120, 0), (999, 150, 0), up=(1000, 200, 0))
            self.assertEqual(flung(touches), wanted, ahead)

    def test_at_99_100_and_101_all_at_once(self):
        touches = stroke((0, 0, 0), (899, 10, 0), (900, 20, 0), (901, 30, 0), up=(1000, 100, 0))
        self.assertEqual(flung(touches), (80, 0))
        touches = stroke((0, 0, 0), (899, 10, 0), (901, 30, 0), up=(1000, 100, 0))
        self.assertEqual(flung(touches), (90, 0))
        touches = stroke((0, 5, 0), (901, 30, 0), up=(1000, 100, 0))
        self.assertEqual(flung(touches), (95, 0))

    def test_several_at_one_moment(self):
        touches = stroke((0, 0, 0), (900, 10, 1), (900, 20, 2), (900, 30, 3), (901, 40, 4), up=(1000, 100, 100))
        self.assertEqual(flung(touches), (70, 97))
        touches = stroke((900, 0, 0), (900, 10, 1), up=(1000, 100, 100))
        self.assertEqual(flung(touches), (90, 99))
        touches = stroke((0, 0, 0), (1000, 60, 0), (1000, 90, 0), up=(1000, 70, 0))
        self.assertEqual(flung(touches), (70, 0))

    def test_only_the_down(self):
        for moment in (0, 899, 900, 901, 999, 1000):
            self.assertEqual(flung(stroke((moment, 7, 8), up=(1000, 107, -92))), (100, -100))

    def test_none_that_far_ahead(self):
        touches = stroke((950, 1, 1), (960, 20, 20), (970, 40, 40), up=(1000, 61, 1))
        self.assertEqual(flung(touches), (60, 0))
        touches = stroke((901, 0, 0), (902, 100, 0), up=(1000, 51, 0))
        self.assertEqual(flung(touches), (51, 0))

    def test_a_way_of_just_50_and_one_beyond(self):
        for x, y in ((50, 0), (0, 50), (-50, 0), (0, -50), (30, 40), (-40, 30), (14, -48), (35, 35)):
            self.assertIsNone(flung(stroke((0, 5, 5), up=(10, 5 + x, 5 + y))), (x, y))
        for x, y in ((51, 0), (0, 51), (-51, 0), (0, -51), (50, 1), (-1, 50), (31, 40), (-40, 31), (30, -41), (36, 35)):
            self.assertEqual(flung(stroke((0, 5, 5), up=(10, 5 + x, 5 + y))), (x, y))

    def test_it_counts_from_there_not_from_the_down(self):
        # Far away from its down, but near to where it was by then.
        self.assertIsNone(flung(stroke((0, 0, 0), (900, 500, 500), up=(1000, 530, 540))))
        # At its down again, but far from where it was by then.
        self.assertEqual(flung(stroke((0, 0, 0), (500, 51, 0), up=(1000, 0, 0))), (-51, 0))

    def test_what_it_went_between_counts_for_nothing(self):
        self.assertIsNone(flung(stroke((0, 0, 0), (950, 5000, 0), (999, -5000, 0), up=(1000, 10, 10))))

    def test_not_flung_is_none(self):
        self.assertIsNone(flung(stroke((0, 0, 0), up=(0, 0, 0))))
        self.assertIsNone(flung(stroke((0, 3, 4), (500, 9, 9), up=(1000, 3, 4))))

    def test_where_no_up_is_nothing_is_flung(self):
        self.assertIsNone(flung([(0, 0, "down", 0, 0), (10, 0, "lost", 100, 0)]))
        self.assertIsNone(flung([(0, 0, "down", 0, 0), (10, 0, "move", 100, 0)]))
        self.assertIsNone(flung([]))

    def test_the_first_and_the_last_moment(self):
        self.assertEqual(flung(stroke((10 ** 9 - 100, 0, 0), (10 ** 9, 1, 1), up=(10 ** 9, 60, 0))), (60, 0))
        self.assertEqual(flung(stroke((0, -10000, -10000), up=(0, 10000, 10000))), (20000, 20000))

    def test_against_a_model(self):
        for moments in itertools.combinations_with_replacement((0, 99, 100, 101, 200, 201), 4):
            rows = [(moment, 100 * at, 7 * at) for at, moment in enumerate(moments[:3])]
            touches = stroke(*rows, up=(moments[3], 1000, 0))
            far = [one for one in touches if moments[3] - one[0] >= 100] or touches[:1]
            self.assertEqual(flung(touches), (1000 - far[-1][3], -far[-1][4]), touches)

    def test_the_kinds_of_what_is_told_and_what_is_handed_in_stays(self):
        touches = stroke((0, 0, 0), (100, 5, 5), up=(200, 100, 100))
        before = copy.deepcopy(touches)
        told = flung(touches)
        self.assertEqual([type(told), type(told[0]), type(told[1]), len(told)], [tuple, int, int, 2])
        self.assertEqual(touches, before)


if __name__ == "__main__":
    unittest.main()
