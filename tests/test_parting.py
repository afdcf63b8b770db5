import unittest
from itertools import combinations, product

from roundsum.errors import TooLong
from roundsum.parting import parted, steps_of
from roundsum.shapes import hull, is_shape
from roundsum.sums import greater, together
from tests.catalog import (EDGE, FALLING, HEXAGON, HUGE, LEVEL, POINT, RISING, SHAPES, SQUARE, TIPPED, TRIANGLE,
                           UPRIGHT, many_corners, shifted, small_shapes, steps)

SMALL = small_shapes()


def all_steps(corners):
    return [arrow for arrow, times in steps(corners).items() for _ in range(times)]


def some_come_to_nought(arrows):
    for size in range(1, len(arrows)):
        for chosen in combinations(arrows, size):
            if sum(x for x, _ in chosen) == 0 and sum(y for _, y in chosen) == 0:
                return True
    return False


def shapes_within_a_square():
    """All shapes within 4 by 4 points, each once for all places it may lie in; none has more than 8 corners."""
    grid = list(product(range(4), range(4)))
    found = {}
    for size in range(1, 9):
        for points in combinations(grid, size):
            corners = hull(list(points))
            if len(corners) == size:
                found[tuple(shifted(corners, (-corners[0][0], -corners[0][1])))] = True
    return [list(corners) for corners in found]


class StepsOf(unittest.TestCase):
    def test_of_a_point_none(self):
        self.assertEqual(steps_of(POINT), [])

    def test_of_a_stick_there_and_back(self):
        self.assertEqual(steps_of(LEVEL), [(1, 0)] * 4 + [(-1, 0)] * 4)
        self.assertEqual(steps_of(UPRIGHT), [(0, 1)] * 6 + [(0, -1)] * 6)
        self.assertEqual(steps_of(RISING), [(2, 3)] * 2 + [(-2, -3)] * 2)
        self.assertEqual(steps_of(FALLING), [(-2, 1)] * 3 + [(2, -1)] * 3)
        self.assertEqual(steps_of([(0, 0), (3, 2)]), [(3, 2), (-3, -2)])
        self.assertEqual(steps_of([(-EDGE, -EDGE), (EDGE, EDGE - 1)]),
                         [(2 * EDGE, 2 * EDGE - 1), (-2 * EDGE, 1 - 2 * EDGE)])

    def test_of_fields_from_the_first_corner_on(self):
        self.assertEqual(steps_of(HEXAGON), [(1, 0), (1, 1), (-1, 1), (-1, 0), (-1, -1), (1, -1)])
        self.assertEqual(steps_of(TRIANGLE), [(1, 0)] * 3 + [(-1, 1)] * 3 + [(0, -1)] * 3)
        self.assertEqual(steps_of(TIPPED), [(1, 1)] * 3 + [(-3, 1)] * 2 + [(3, -5)])
        self.assertEqual(steps_of([(0, 0), (4, 6), (2, 9)]), [(2, 3)] * 2 + [(-2, 3), (-2, -9)])

    def test_small_shapes(self):
        for corners in SMALL:
            self.assertEqual(steps_of(corners), all_steps(corners), corners)
            self.assertEqual(steps_of(shifted(corners, (-4, 9))), all_steps(corners), corners)

    def test_thousands_of_steps(self):
        self.assertEqual(steps_of(greater(TRIANGLE, 1000)), [(1, 0)] * 3000 + [(-1, 1)] * 3000 + [(0, -1)] * 3000)
        self.assertEqual(steps_of([(-5000, -7), (0, -7)]), [(1, 0)] * 5000 + [(-1, 0)] * 5000)
        self.assertEqual(steps_of(greater(many_corners(), 125)), all_steps(greater(many_corners(), 125)))
        self.assertEqual(len(steps_of(greater(many_corners(), 125))), 10000)


class Parted(unittest.TestCase):
    def assert_parted(self, corners):
        told = parted(corners)
        self.assertIs(told.__class__, tuple, corners)
        self.assertEqual(len(told), 2)
        one, other = told
        for part in told:
            self.assertIs(part.__class__, list)
            self.assertTrue(is_shape(part), corners)
            self.assertGreater(len(part), 1, corners)
        self.assertIsNot(one, other)
        self.assertEqual(together(one, other), corners)

    def test_points(self):
        for corners in (POINT, [(0, 0)], [(EDGE, -EDGE)]):
            self.assertIsNone(parted(corners))

    def test_sticks_of_one_step_each_way(self):
        for corners in ([(0, 0), (1, 0)], [(4, -2), (4, -1)], [(0, 0), (3, 2)], [(5, 1), (-2, 2)],
                        [(-EDGE, -EDGE), (EDGE, EDGE - 1)]):
            self.assertIsNone(parted(corners))

    def test_sticks_of_more(self):
        for corners in (LEVEL, RISING, FALLING, [(0, 0), (2, 0)], [(3, -3), (3, 0)],
                        [(-EDGE, -EDGE), (EDGE, -EDGE + 4)]):
            self.assert_parted(corners)

    def test_fields_that_can_not_be(self):
        for corners in ([(0, 0), (1, 0), (0, 1)], [(0, 0), (2, 0), (0, 1)], [(0, 0), (8, 0), (0, 1)],
                        [(0, 0), (2, 1), (1, 2)], [(0, 0), (1, 0), (3, 5), (-1, 2)], TIPPED):
            self.assertIsNone(parted(corners), corners)

    def test_fields_that_can_be(self):
        for corners in (TRIANGLE, HEXAGON, [(0, 0), (1, 0), (1, 1), (0, 1)], [(0, 0), (2, 0), (1, 1), (0, 1)],
                        [(0, 0), (2, 0), (0, 2)], [(-3, -4), (-1, -4), (-1, -3), (-3, -3)],
                        [(9, 9), (10, 10), (10, 12), (9, 11)], [(0, 0), (4, 2), (2, 4)]):
            self.assert_parted(corners)

    def test_small_shapes_by_all_that_come_to_them(self):
        sticks_and_fields = [corners for corners in SMALL if len(corners) > 1]
        sums = {tuple(together(one, other)): True for one, other in product(sticks_and_fields, repeat=2)}
        for corners in SMALL:
            if tuple(corners) in sums:
                self.assert_parted(corners)
            else:
                self.assertIsNone(parted(corners), corners)

    def test_shapes_within_a_square_by_all_choices_of_steps(self):
        counts = {"parted": 0, "not parted": 0, "too long": 0}
        for corners in shapes_within_a_square():
            arrows = all_steps(corners)
            if len(arrows) > 10:
                counts["too long"] += 1
                self.assertRaises(TooLong, parted, corners)
            elif some_come_to_nought(arrows):
                counts["parted"] += 1
                self.assert_parted(shifted(corners, (3, -5)))
            else:
                counts["not parted"] += 1
                self.assertIsNone(parted(corners), corners)
        for name, count in counts.items():
            self.assertGreater(count, 1, name)

    def test_wherever_it_lies(self):
        for arrow in product((-EDGE + 9, -1, 0, 6, EDGE - 9), repeat=2):
            self.assert_parted(shifted(HEXAGON, arrow))
            self.assert_parted(shifted(LEVEL, arrow))

    def test_long_sides_of_one_step(self):
        self.assert_parted([(-EDGE, -EDGE), (EDGE - 1, -EDGE + 1), (EDGE, EDGE), (-EDGE + 1, EDGE - 1)])
        self.assertIsNone(parted([(-EDGE, -EDGE), (EDGE, -EDGE + 1), (EDGE - 1, EDGE)]))


class TooManySteps(unittest.TestCase):
    def steps_and_parting(self, corners, count):
        self.assertEqual(len(all_steps(corners)), count, corners)
        return parted(corners)

    def test_ten_are_answered(self):
        self.assertIsNotNone(self.steps_and_parting([(0, 0), (5, 0)], 10))
        self.assertIsNotNone(self.steps_and_parting([(3, 3), (-2, 18)], 10))
        self.assertIsNotNone(self.steps_and_parting([(0, 0), (4, 0), (4, 1), (0, 1)], 10))
        self.assertIsNotNone(self.steps_and_parting([(0, 0), (3, 0), (3, 1), (1, 3), (0, 3)], 10))
        self.assertIsNone(self.steps_and_parting([(0, 0), (8, 0), (0, 1)], 10))

    def test_more_are_refused(self):
        for corners, count in (([(0, 0), (9, 0), (0, 1)], 11),
                               ([(0, 0), (5, 0), (4, 1), (0, 1)], 11),
                               ([(0, 0), (6, 0)], 12),
                               ([(0, 0), (-12, 18)], 12),
                               (UPRIGHT, 12),
                               (SQUARE, 12),
                               (many_corners(), 80)):
            self.assertEqual(len(all_steps(corners)), count)
            self.assertRaises(TooLong, parted, corners)

    def test_millions_are_refused(self):
        self.assertRaises(TooLong, parted, HUGE)
        self.assertRaises(TooLong, parted, greater(HUGE, 1000000))
        self.assertRaises(TooLong, parted, greater(LEVEL, 1000000))

    def test_whatever_they_come_to(self):
        for corners in SHAPES:
            if len(corners) > 1:
                self.assertRaises(TooLong, parted, greater(corners, 11))
