import unittest
from itertools import product

from roundsum.errors import NoNumber
from roundsum.shapes import hull, is_shape, reach, sides
from roundsum.sums import greater, taken_off, together
from tests.catalog import (EDGE, FALLING, HEXAGON, HUGE, LEVEL, POINT, RISING, SHAPES, SQUARE, TIPPED,
                           TRIANGLE, UPRIGHT, many_corners, shifted, slow_hull, small_shapes, steps)

ARROWS = list(product(range(-2, 3), range(-2, 3)))
SMALL = small_shapes()


def summed(one, other):
    return sorted({(a + c, b + d) for a, b in one for c, d in other})


class Together(unittest.TestCase):
    def test_point_with_point(self):
        self.assertEqual(together([(2, -3)], [(-5, 1)]), [(-3, -2)])

    def test_point_with_stick_and_field(self):
        self.assertEqual(together(POINT, LEVEL), [(1, -1), (5, -1)])
        self.assertEqual(together(TRIANGLE, POINT), [(2, -3), (5, -3), (2, 0)])
        self.assertEqual(together([(0, 0)], HEXAGON), HEXAGON)

    def test_stick_with_stick(self):
        self.assertEqual(together(LEVEL, [(0, 0), (1, 0)]), [(-1, 2), (4, 2)])
        self.assertEqual(together(FALLING, [(2, 0), (0, 1)]), [(6, -1), (-2, 3)])
        self.assertEqual(together(UPRIGHT, UPRIGHT), [(2, -4), (2, 8)])
        self.assertEqual(together(LEVEL, UPRIGHT), [(0, 0), (4, 0), (4, 6), (0, 6)])
        self.assertEqual(together(RISING, FALLING), [(2, -2), (6, 4), (0, 7), (-4, 1)])

    def test_field_with_field(self):
        self.assertEqual(together(TRIANGLE, TRIANGLE), [(0, 0), (6, 0), (0, 6)])
        self.assertEqual(together(TRIANGLE, SQUARE), [(-1, -1), (5, -1), (5, 2), (2, 5), (-1, 5)])
        self.assertEqual(together(TRIANGLE, [(0, -1), (0, 0), (-1, 0)]),
                         [(0, -1), (3, -1), (3, 0), (0, 3), (-1, 3), (-1, 0)])
        self.assertEqual(together(SQUARE, HEXAGON),
                         [(0, -1), (4, -1), (5, 0), (5, 3), (4, 4), (0, 4), (-1, 3), (-1, 0)])

    def test_stick_with_field(self):
        self.assertEqual(together([(0, 0), (2, 0)], TRIANGLE), [(0, 0), (5, 0), (2, 3), (0, 3)])
        self.assertEqual(together(SQUARE, [(0, 0), (1, 1)]), [(-1, -1), (2, -1), (3, 0), (3, 3), (0, 3), (-1, 2)])

    def test_all_small_shapes(self):
        hulls = {}
        for one in SMALL:
            for other in SMALL:
                points = tuple(summed(one, other))
                if points not in hulls:
                    hulls[points] = hull(list(points))
                self.assertEqual(together(one, other), hulls[points], (one, other))

    def test_as_shape_of_all_sums(self):
        for one in SHAPES:
            for other in SHAPES:
                both = together(one, other)
                self.assertEqual(both, slow_hull(summed(one, other)))
                self.assertEqual(both, together(other, one))

    def test_reach_is_the_sum_of_the_reaches(self):
        for one in SHAPES:
            for other in SHAPES:
                both = together(one, other)
                for arrow in ARROWS:
                    self.assertEqual(reach(both, arrow), reach(one, arrow) + reach(other, arrow))

    def test_many_corners(self):
        many = many_corners()
        self.assertEqual(together(many, many), [(2 * x, 2 * y) for x, y in many])
        long_sides = [(x * 100, y * 100) for x, y in many]
        slanted = [(0, 0), (100, 1), (99, 101), (-1, 100)]
        both = together(long_sides, slanted)
        self.assertEqual(len(both), 84)
        self.assertTrue(is_shape(both))

    def test_up_to_the_bounds(self):
        self.assertEqual(together(HUGE, HUGE), [(2 * x, 2 * y) for x, y in HUGE])
        # These two arrows differ by one part in some hundred millions of millions.
        one = [(-EDGE, -EDGE), (EDGE, EDGE - 1)]
        other = [(-EDGE, -EDGE), (EDGE - 1, EDGE - 2)]
        field = [(-2 * EDGE, -2 * EDGE), (-1, -2), (2 * EDGE - 1, 2 * EDGE - 3), (0, -1)]
        self.assertEqual(together(one, other), slow_hull(field))
        self.assertEqual(together(other, one), slow_hull(field))


class Greater(unittest.TestCase):
    def test_nought_times(self):
        for corners in SHAPES:
            self.assertEqual(greater(corners, 0), [(0, 0)])

    def test_once_and_more_often(self):
        for corners in SHAPES:
            twice = together(corners, corners)
            self.assertEqual(greater(corners, 1), corners)
            self.assertEqual(greater(corners, 2), twice)
            self.assertEqual(greater(corners, 3), together(twice, corners))
            self.assertEqual(greater(corners, 5), together(greater(corners, 3), twice))

    def test_ordinary(self):
        self.assertEqual(greater(POINT, 4), [(8, -12)])
        self.assertEqual(greater(TIPPED, 3), [(3, -6), (12, 3), (-6, 9)])

    def test_a_million_times(self):
        self.assertEqual(greater(TIPPED, 1000000), [(1000000, -2000000), (4000000, 1000000), (-2000000, 3000000)])
        self.assertEqual(greater(HUGE, 1000000), [(x * 10 ** 6, y * 10 ** 6) for x, y in HUGE])

    def test_no_number(self):
        for times in (-1, -1000000, 1000001, 10 ** 9):
            for corners in SHAPES:
                self.assertRaises(NoNumber, greater, corners, times)


class TakenOff(unittest.TestCase):
    def test_both_together_without_the_one(self):
        for one in SHAPES:
            for other in SHAPES:
                self.assertEqual(taken_off(together(one, other), one), ("yes", other))
                self.assertEqual(taken_off(together(one, other), other), ("yes", one))

    def test_without_itself(self):
        for corners in SHAPES:
            self.assertEqual(taken_off(corners, corners), ("yes", [(0, 0)]))

    def test_without_a_point(self):
        for corners in SHAPES:
            self.assertEqual(taken_off(corners, [(3, -4)]), ("yes", shifted(corners, (-3, 4))))

    def test_part_of_a_side(self):
        self.assertEqual(taken_off(LEVEL, [(5, 5), (6, 5)]), ("yes", [(-6, -3), (-3, -3)]))
        self.assertEqual(taken_off(SQUARE, [(0, 0), (2, 0)]), ("yes", [(-1, -1), (0, -1), (0, 2), (-1, 2)]))
        self.assertEqual(taken_off(SQUARE, [(0, 0), (3, 0)]), ("yes", [(-1, -1), (-1, 2)]))
        self.assertEqual(taken_off(TRIANGLE, [(0, 0), (1, 0), (0, 1)]), ("yes", [(0, 0), (2, 0), (0, 2)]))

    def test_a_side_that_points_like_none(self):
        self.assertEqual(taken_off(POINT, LEVEL), ("no", (1, 0)))
        self.assertEqual(taken_off(LEVEL, UPRIGHT), ("no", (0, 1)))
        self.assertEqual(taken_off(SQUARE, TRIANGLE), ("no", (-1, 1)))
        self.assertEqual(taken_off(TRIANGLE, [(0, 0), (1, 0), (1, 1), (0, 1)]), ("no", (0, 1)))
        self.assertEqual(taken_off(TRIANGLE, [(0, 0), (2, 0)]), ("no", (-1, 0)))
        self.assertEqual(taken_off(LEVEL, FALLING), ("no", (-2, 1)))

    def test_a_side_that_goes_too_often(self):
        self.assertEqual(taken_off(LEVEL, [(0, 0), (5, 0)]), ("no", (1, 0)))
        self.assertEqual(taken_off(LEVEL, [(0, 0), (4, 0)]), ("yes", [(-1, 2)]))
        self.assertEqual(taken_off(TRIANGLE, [(0, 0), (4, 0), (0, 4)]), ("no", (1, 0)))
        self.assertEqual(taken_off(SQUARE, [(0, 0), (3, 0), (3, 4), (0, 4)]), ("no", (0, 1)))
        self.assertEqual(taken_off(HEXAGON, [(0, 0), (1, 1), (-1, 1)]), ("no", (-1, 0)))

    def test_the_first_of_several_such_sides(self):
        self.assertEqual(taken_off(SQUARE, HEXAGON), ("no", (1, 1)))
        self.assertEqual(taken_off(UPRIGHT, TIPPED), ("no", (1, 1)))
        self.assertEqual(taken_off(SQUARE, [(0, 0), (3, 0), (5, 2), (5, 9), (0, 9)]), ("no", (1, 1)))
        self.assertEqual(taken_off(SQUARE, [(0, 0), (9, 0), (0, 9)]), ("no", (1, 0)))

    def test_numbers_with_a_common_divisor(self):
        self.assertEqual(taken_off([(0, 0), (12, 18)], [(0, 0), (8, 12)]), ("yes", [(0, 0), (4, 6)]))
        self.assertEqual(taken_off([(0, 0), (8, 12)], [(0, 0), (12, 18)]), ("no", (2, 3)))
        self.assertEqual(taken_off([(0, 0), (4, 6)], [(0, 0), (12, 8)]), ("no", (3, 2)))
        self.assertEqual(taken_off([(0, 0), (4, 6)], [(0, 0), (-6, 9)]), ("no", (-2, 3)))
        self.assertEqual(taken_off(POINT, [(0, 0), (0, 6)]), ("no", (0, 1)))
        self.assertEqual(taken_off([(0, 0), (9, 0), (3, 6)], [(0, 0), (6, 0), (2, 4)]),
                         ("yes", [(0, 0), (3, 0), (1, 2)]))

    def test_what_is_left_is_all_that_it_can_be(self):
        parts = {}
        for one in SMALL:
            for other in SMALL:
                parts[(tuple(together(one, other)), tuple(one))] = other
        for whole in SMALL:
            for part in SMALL:
                rest = parts.get((tuple(whole), tuple(part)))
                told = taken_off(whole, part)
                if rest is None:
                    self.assertEqual(told[0], "no", (whole, part))
                else:
                    self.assertEqual(told, ("yes", rest))

    def test_the_arrow_told(self):
        for whole in SMALL:
            have = steps(whole)
            for part in SMALL:
                often = [arrow for arrow, times in steps(part).items() if times > have.get(arrow, 0)]
                told = taken_off(whole, part)
                if often:
                    self.assertEqual(told, ("no", often[0]), (whole, part))
                else:
                    self.assertEqual(told[0], "yes", (whole, part))

    def test_up_to_the_bounds(self):
        one = [(-EDGE, -EDGE), (EDGE, EDGE - 1)]
        other = [(-EDGE, -EDGE), (EDGE - 1, EDGE - 2)]
        self.assertEqual(taken_off(one, other), ("no", (2 * EDGE - 1, 2 * EDGE - 2)))
        self.assertEqual(taken_off(together(one, other), other), ("yes", one))
        self.assertEqual(taken_off(greater(HUGE, 1000000), HUGE), ("yes", greater(HUGE, 999999)))
        many = many_corners()
        self.assertEqual(taken_off(greater(many, 1000000), greater(many, 999999)), ("yes", many))
        self.assertEqual(taken_off(many, greater(many, 2)), ("no", sides(many)[0]))
