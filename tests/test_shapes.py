import unittest
from itertools import permutations, product

from roundsum.errors import NoPoints
from roundsum.shapes import holds, hull, is_shape, reach, sides
from tests.catalog import (EDGE, FALLING, HEXAGON, HUGE, LEVEL, NO_SHAPES, POINT, RISING, SHAPES, SQUARE, TIPPED,
                           TRIANGLE, UPRIGHT, many_corners, slow_hull, small_shapes, spanned)

GRID = list(product(range(3), range(3)))
ARROWS = list(product(range(-2, 3), range(-2, 3)))


class IsShape(unittest.TestCase):
    def test_points_sticks_and_fields(self):
        for corners in SHAPES:
            with self.subTest(corners=corners):
                self.assertIs(is_shape(corners), True)

    def test_lists_that_are_none(self):
        for name, corners in NO_SHAPES.items():
            with self.subTest(name):
                self.assertIs(is_shape(corners), False)

    def test_all_short_lists(self):
        for length in (1, 2, 3, 4):
            for points in product(GRID, repeat=length):
                self.assertEqual(is_shape(list(points)), slow_hull(points) == list(points), points)

    def test_only_one_order_of_the_corners_is_right(self):
        for corners in (SQUARE, [(0, 0), (2, 0), (3, 2), (1, 3), (-1, 2)], HEXAGON):
            right = [list(order) for order in permutations(corners) if is_shape(list(order))]
            self.assertEqual(right, [corners])

    def test_up_to_the_bounds(self):
        self.assertTrue(is_shape([(-EDGE, -EDGE), (EDGE, EDGE - 1), (EDGE, EDGE)]))
        self.assertFalse(is_shape([(-EDGE, -EDGE), (0, 0), (EDGE, EDGE)]))
        # The middle corner lies off the line of its neighbours by less than a fraction's rounding.
        self.assertTrue(is_shape([(-EDGE, -EDGE), (0, 0), (EDGE - 1, EDGE)]))
        self.assertFalse(is_shape([(-EDGE, -EDGE), (0, 0), (EDGE, EDGE - 1)]))

    def test_eighty_corners(self):
        corners = many_corners()
        self.assertEqual(len(corners), 80)
        self.assertTrue(is_shape(corners))
        self.assertFalse(is_shape(corners[1:] + corners[:1]))
        self.assertFalse(is_shape(corners[:40] + corners[41:42] + corners[40:41] + corners[42:]))


class Sides(unittest.TestCase):
    def test_of_a_point_none(self):
        self.assertEqual(sides(POINT), [])

    def test_of_a_stick_there_and_back(self):
        self.assertEqual(sides(LEVEL), [(4, 0), (-4, 0)])
        self.assertEqual(sides(UPRIGHT), [(0, 6), (0, -6)])
        self.assertEqual(sides(FALLING), [(-6, 3), (6, -3)])

    def test_of_a_field_from_the_first_corner_on(self):
        self.assertEqual(sides(TRIANGLE), [(3, 0), (-3, 3), (0, -3)])
        self.assertEqual(sides(TIPPED), [(3, 3), (-6, 2), (3, -5)])
        self.assertEqual(sides(HEXAGON), [(1, 0), (1, 1), (-1, 1), (-1, 0), (-1, -1), (1, -1)])
        self.assertEqual(sides(HUGE), [(2 * EDGE, 0), (0, 2 * EDGE), (-2 * EDGE, 0), (0, -2 * EDGE)])
        self.assertEqual(len(sides(many_corners())), 80)


class Hull(unittest.TestCase):
    def test_one_point(self):
        self.assertEqual(hull([(5, -7)]), [(5, -7)])

    def test_points_alike(self):
        self.assertEqual(hull([(1, 2), (1, 2)]), [(1, 2)])
        self.assertEqual(hull([(1, 2)] * 40), [(1, 2)])
        self.assertEqual(hull([(1, 2), (0, 0), (1, 2), (0, 0)]), [(0, 0), (1, 2)])
        self.assertEqual(hull([(0, 0), (3, 0), (0, 3)] * 13), TRIANGLE)

    def test_points_on_one_line(self):
        self.assertEqual(hull([(2, 4), (-3, 4), (0, 4), (7, 4)]), [(-3, 4), (7, 4)])
        self.assertEqual(hull([(2, 4), (2, -3), (2, 0), (2, 7)]), [(2, -3), (2, 7)])
        self.assertEqual(hull([(0, 0), (4, 6), (2, 3), (-2, -3)]), [(-2, -3), (4, 6)])
        self.assertEqual(hull([(0, 0), (-4, 6), (-2, 3), (2, -3), (-2, 3)]), [(2, -3), (-4, 6)])

    def test_all_short_lists(self):
        for length in (1, 2, 3, 4):
            for points in product(GRID, repeat=length):
                self.assertEqual(hull(list(points)), slow_hull(points), points)

    def test_many_points_in_any_order(self):
        points = [(k * k * k % 41 - 20, 7 * k * k % 43 - 21) for k in range(40)]
        corners = slow_hull(points)
        self.assertGreater(len(corners), 5)
        for start in range(40):
            turned = points[start:] + points[:start]
            self.assertEqual(hull(turned), corners)
            self.assertEqual(hull(turned[::-1]), corners)
            self.assertEqual(hull(turned[::2] + turned[1::2]), corners)

    def test_a_shape_is_that_of_its_own_corners(self):
        for corners in SHAPES:
            self.assertEqual(hull(corners[::-1]), corners)

    def test_how_many_points(self):
        forty = [(k, k * k) for k in range(40)]
        self.assertEqual(hull(forty), forty)
        for points in ([], forty + [(40, 1600)], forty + [(0, 0)], [(0, 0)] * 41, [(k, 0) for k in range(80)]):
            with self.subTest(length=len(points)):
                self.assertRaises(NoPoints, hull, points)

    def test_up_to_the_bounds(self):
        inner = [(0, 0), (EDGE - 1, EDGE - 1), (-EDGE, 5), (7, EDGE)]
        self.assertEqual(hull(inner + HUGE), HUGE)
        self.assertEqual(hull([(EDGE - 1, EDGE), (0, 0), (-EDGE, -EDGE)]), [(-EDGE, -EDGE), (0, 0), (EDGE - 1, EDGE)])
        self.assertEqual(hull([(EDGE, EDGE), (0, 0), (-EDGE, -EDGE)]), [(-EDGE, -EDGE), (EDGE, EDGE)])


class Holds(unittest.TestCase):
    def assert_holds(self, corners, inside, outside):
        for point in inside:
            self.assertIs(holds(corners, point), True, point)
        for point in outside:
            self.assertIs(holds(corners, point), False, point)

    def test_field(self):
        self.assert_holds(TRIANGLE, TRIANGLE + [(1, 0), (2, 1), (0, 2), (1, 1)],
                          [(-1, 0), (4, 0), (0, 4), (2, 2), (-1, 1), (1, -1), (4, -1)])

    def test_stick(self):
        self.assert_holds(FALLING, [(4, -1), (-2, 2), (2, 0), (0, 1)],
                          [(6, -2), (-4, 3), (1, 0), (1, 1), (3, 0), (0, 0), (5, -1)])
        self.assert_holds(LEVEL, [(-1, 2), (3, 2), (0, 2)], [(-2, 2), (4, 2), (0, 3), (0, 1)])
        self.assert_holds(UPRIGHT, [(1, -2), (1, 4), (1, 0)], [(1, -3), (1, 5), (0, 0), (2, 0)])
        self.assert_holds(RISING, [(-2, -1), (2, 5), (0, 2)], [(4, 8), (-4, -4), (0, 1), (0, 3)])

    def test_point(self):
        self.assert_holds(POINT, [(2, -3)], [(2, -2), (3, -3), (0, 0), (-3, 2)])

    def test_all_small_shapes(self):
        for corners in small_shapes():
            for point in product(range(-3, 4), range(-1, 4)):
                self.assertEqual(holds(corners, point), spanned(point, corners), (corners, point))

    def test_up_to_the_bounds(self):
        self.assert_holds(HUGE, HUGE + [(0, 0), (EDGE, 3)], [(EDGE + 1, 0), (0, -EDGE - 1)])
        stick = [(-EDGE, -EDGE), (EDGE, EDGE - 1)]
        self.assert_holds(stick, stick, [(0, 0), (0, -1), (EDGE, EDGE), (EDGE - 1, EDGE - 2)])


class Reach(unittest.TestCase):
    def test_every_kind(self):
        self.assertEqual(reach(POINT, (5, 2)), 4)
        self.assertEqual(reach(POINT, (-5, 2)), -16)
        self.assertEqual(reach(LEVEL, (1, 0)), 3)
        self.assertEqual(reach(LEVEL, (-1, 0)), 1)
        self.assertEqual(reach(TRIANGLE, (1, 1)), 3)
        self.assertEqual(reach(TRIANGLE, (-1, -1)), 0)
        self.assertEqual(reach(TIPPED, (2, 7)), 17)
        self.assertEqual(reach([(-4, -6), (-2, -5)], (1, 1)), -7)

    def test_the_arrow_that_goes_nowhere(self):
        for corners in SHAPES:
            self.assertEqual(reach(corners, (0, 0)), 0)

    def test_no_point_of_the_shape_has_more_and_one_has_it(self):
        places = list(product(range(-3, 4), range(-3, 6)))
        for corners in (POINT, LEVEL, UPRIGHT, RISING, TRIANGLE, TIPPED, SQUARE, HEXAGON):
            for arrow in ARROWS:
                products = [x * arrow[0] + y * arrow[1] for x, y in places + corners if spanned((x, y), corners)]
                self.assertEqual(reach(corners, arrow), max(products), (corners, arrow))

    def test_up_to_the_bounds(self):
        for arrow in ((EDGE, EDGE), (-EDGE, EDGE), (-EDGE, -EDGE), (EDGE, -EDGE)):
            self.assertEqual(reach(HUGE, arrow), 2 * EDGE * EDGE)
