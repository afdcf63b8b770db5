"""Each refusal is of its own class and of no other, and NoShape comes ahead of all else."""

import unittest
from itertools import product

from roundsum.areas import double_area, mixed
from roundsum.errors import NoNote, NoNumber, NoPoints, NoShape, RoundError, TooLong
from roundsum.notes import read, shown
from roundsum.parting import parted, steps_of
from roundsum.shapes import holds, hull, is_shape, reach, sides
from roundsum.sums import greater, taken_off, together
from tests.catalog import HUGE, NO_SHAPES, SHAPES, many_corners

OF_ONE = {
    "sides": sides,
    "holds": lambda corners: holds(corners, (0, 0)),
    "holds its first corner": lambda corners: holds(corners, (corners + [(1, 1)])[0]),
    "reach": lambda corners: reach(corners, (1, 0)),
    "reach of the arrow that goes nowhere": lambda corners: reach(corners, (0, 0)),
    "double_area": double_area,
    "steps_of": steps_of,
    "parted": parted,
    "shown": shown,
    "nought times": lambda corners: greater(corners, 0),
    "once": lambda corners: greater(corners, 1),
    "twice": lambda corners: greater(corners, 2),
    "a number too small": lambda corners: greater(corners, -1),
    "a number too great": lambda corners: greater(corners, 1000001),
}
OF_TWO = {"together": together, "taken_off": taken_off, "mixed": mixed}
# No shapes, and of more than ten steps too.
LONG_NO_SHAPES = (
    [(0, 0), (0, 300), (300, 0)],
    [(600, 0), (0, 0)],
    [(0, 0), (50, 0), (100, 0)],
    HUGE[1:] + HUGE[:1],
    many_corners()[::-1],
)


class Refusals(unittest.TestCase):
    def assert_refused(self, refusal, call, *handed):
        with self.assertRaises(RoundError) as caught:
            call(*handed)
        self.assertIs(caught.exception.__class__, refusal)
        self.assertEqual(caught.exception.__class__.__bases__, (RoundError,))

    def no_shapes(self):
        return list(NO_SHAPES.values()) + list(LONG_NO_SHAPES)

    def test_no_shape_of_one(self):
        for (name, call), corners in product(OF_ONE.items(), self.no_shapes()):
            with self.subTest(name, corners=corners):
                self.assert_refused(NoShape, call, corners)

    def test_no_shape_in_either_place(self):
        for (name, call), corners in product(OF_TWO.items(), self.no_shapes()):
            with self.subTest(name, corners=corners):
                for shape in SHAPES:
                    self.assert_refused(NoShape, call, corners, shape)
                    self.assert_refused(NoShape, call, shape, corners)
                for none in self.no_shapes():
                    self.assert_refused(NoShape, call, corners, none)

    def test_is_shape_refuses_nothing(self):
        for corners in self.no_shapes():
            self.assertIs(is_shape(corners), False)

    def test_hull_is_handed_points_that_need_not_be_corners(self):
        for points in self.no_shapes():
            if 1 <= len(points) <= 40:
                self.assertTrue(is_shape(hull(points)))

    def test_no_points(self):
        for points in ([], [(0, 0)] * 41, [(k, k * k) for k in range(41)]):
            self.assert_refused(NoPoints, hull, points)

    def test_no_number(self):
        for times in (-1, 1000001):
            self.assert_refused(NoNumber, greater, [(0, 0), (1, 0)], times)

    def test_too_long(self):
        for corners in ([(0, 0), (6, 0)], [(0, 0), (9, 0), (0, 1)], HUGE):
            self.assert_refused(TooLong, parted, corners)

    def test_no_note(self):
        for text in ("", "1", "1,2 ", "a,b", "10000000,1", "1" * 5000 + ",1", "0,0 0,0", "1,0 0,0"):
            self.assert_refused(NoNote, read, text)
