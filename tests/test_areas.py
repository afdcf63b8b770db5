import unittest
from itertools import product

from roundsum.areas import double_area, mixed
from roundsum.shapes import reach
from roundsum.sums import greater, together
from tests.catalog import (EDGE, FALLING, HEXAGON, HUGE, LEVEL, POINT, RISING, SHAPES, SQUARE, TIPPED, TRIANGLE,
                           UPRIGHT, many_corners, shifted, small_shapes, spanned, steps, turning)

SMALL = small_shapes()
STICKS = (LEVEL, UPRIGHT, RISING, FALLING)
FIELDS = {"triangle": (TRIANGLE, 9), "tipped": (TIPPED, 24), "square": (SQUARE, 18), "hexagon": (HEXAGON, 8),
          "huge": (HUGE, 8 * EDGE * EDGE)}


def by_counting(corners):
    """Points inside counted twice, points on the sides once, less two."""
    if len(corners) < 3:
        return 0
    whole = [p for p in product(range(-3, 5), range(-3, 5)) if spanned(p, corners)]
    on_sides = sum(steps(corners).values())
    return 2 * (len(whole) - on_sides) + on_sides - 2


def by_triangles(corners):
    return sum(turning(corners[0], start, end) for start, end in zip(corners[1:], corners[2:]))


def by_reaches(one, other):
    """Twice what the reaches of the one come to, each for a side of the other turned to its outside."""
    if len(other) == 1:
        return 0
    ends = other[1:] + other[:1]
    return 2 * sum(reach(one, (d - b, a - c)) for (a, b), (c, d) in zip(other, ends))


class DoubleArea(unittest.TestCase):
    def test_points_and_sticks_have_none(self):
        for corners in (POINT, [(0, 0)], [(EDGE, -EDGE)], [(-EDGE, -EDGE), (EDGE, EDGE - 1)]) + STICKS:
            self.assertEqual(double_area(corners), 0)

    def test_fields(self):
        for name, (corners, area) in FIELDS.items():
            self.assertEqual(double_area(corners), area, name)
        self.assertEqual(double_area([(0, 0), (1, 0), (0, 1)]), 1)
        self.assertEqual(double_area([(-EDGE, -EDGE), (0, 0), (EDGE - 1, EDGE)]), EDGE)

    def test_small_shapes_by_counting_points(self):
        for corners in SMALL:
            self.assertEqual(double_area(corners), by_counting(corners), corners)

    def test_fields_by_triangles(self):
        for corners in SHAPES + (many_corners(),):
            self.assertEqual(double_area(corners), by_triangles(corners), corners)

    def test_wherever_it_lies(self):
        places = list(product((-20, -1, 0, 1, 20), repeat=2)) + [(9000000, -9000000), (-9000000, 9000000)]
        for corners in (POINT, TIPPED, TRIANGLE, SQUARE, HEXAGON) + STICKS:
            for arrow in places:
                self.assertEqual(double_area(shifted(corners, arrow)), double_area(corners), (corners, arrow))

    def test_round_the_middle_and_on_each_side_of_it(self):
        for arrow in ((0, 0), (7, 0), (-7, 0), (0, 7), (0, -7)):
            self.assertEqual(double_area(shifted(SQUARE, arrow)), 18)
            self.assertEqual(double_area(shifted([(0, -2), (2, 2), (-3, 1)], arrow)), 18)

    def test_a_number_above_nought_of_each_field(self):
        for corners in SMALL:
            area = double_area(corners)
            self.assertIs(area.__class__, int)
            self.assertEqual(area > 0, len(corners) > 2, corners)


class Mixed(unittest.TestCase):
    def test_written_out(self):
        self.assertEqual(mixed(LEVEL, UPRIGHT), 48)
        self.assertEqual(mixed(TRIANGLE, [(0, 0), (2, 0)]), 12)
        self.assertEqual(mixed(TRIANGLE, SQUARE), 36)
        self.assertEqual(mixed(TRIANGLE, [(0, -1), (0, 0), (-1, 0)]), 12)
        self.assertEqual(mixed([(0, 0), (3, 0), (3, 1), (0, 1)], [(0, 0), (1, 0), (1, 2), (0, 2)]), 14)

    def test_both_together_less_each(self):
        for one, other in product(SHAPES, repeat=2):
            both = by_triangles(together(one, other))
            self.assertEqual(mixed(one, other), both - by_triangles(one) - by_triangles(other), (one, other))

    def test_by_reaches(self):
        for one, other in product(SHAPES + (many_corners(),), repeat=2):
            self.assertEqual(mixed(one, other), by_reaches(one, other), (one, other))

    def test_small_shapes_by_reaches(self):
        for one, other in product(SMALL, repeat=2):
            told = mixed(one, other)
            self.assertEqual(told, by_reaches(one, other), (one, other))
            self.assertGreaterEqual(told, 0)

    def test_with_itself(self):
        for corners in SHAPES:
            self.assertEqual(mixed(corners, corners), 2 * double_area(corners))
            self.assertEqual(mixed(corners, shifted(corners, (5, -8))), 2 * double_area(corners))

    def test_with_a_point(self):
        for corners in SHAPES:
            for point in (POINT, [(0, 0)], [(-EDGE, EDGE)]):
                self.assertEqual(mixed(corners, point), 0)
                self.assertEqual(mixed(point, corners), 0)

    def test_two_sticks(self):
        for one, other in product(STICKS, repeat=2):
            (a, b), (c, d) = one
            (e, f), (g, h) = other
            self.assertEqual(mixed(one, other), 2 * abs((c - a) * (h - f) - (d - b) * (g - e)), (one, other))

    def test_two_sticks_of_one_direction(self):
        self.assertEqual(mixed(LEVEL, [(7, 7), (8, 7)]), 0)
        self.assertEqual(mixed(FALLING, [(2, 0), (0, 1)]), 0)
        self.assertEqual(mixed([(0, 0), (4, 6)], [(0, 0), (2, 3)]), 0)

    def test_the_same_either_way(self):
        for one, other in product(SHAPES, repeat=2):
            self.assertEqual(mixed(one, other), mixed(other, one))

    def test_so_many_times_each(self):
        for one, other in product(SHAPES, repeat=2):
            for first, second in ((0, 0), (0, 3), (4, 0), (1, 1), (2, 3), (5, 1), (1000000, 999999)):
                both = together(greater(one, first), greater(other, second))
                area = (first * first * double_area(one) + first * second * mixed(one, other)
                        + second * second * double_area(other))
                self.assertEqual(double_area(both), area, (one, other, first, second))


class Laws(unittest.TestCase):
    def test_never_below_nought(self):
        for one, other in product(SHAPES, repeat=2):
            told = mixed(one, other)
            self.assertIs(told.__class__, int)
            self.assertGreaterEqual(told, 0)

    def test_a_third_with_two_together(self):
        for one, other, third in product(SHAPES, repeat=3):
            self.assertEqual(mixed(third, together(one, other)), mixed(third, one) + mixed(third, other))
            self.assertEqual(mixed(together(one, other), third), mixed(one, third) + mixed(other, third))

    def test_multiplied_with_itself(self):
        for one, other in list(product(SHAPES, repeat=2)) + list(product(SMALL, repeat=2)):
            told = mixed(one, other)
            self.assertGreaterEqual(told * told, 4 * double_area(one) * double_area(other), (one, other))
