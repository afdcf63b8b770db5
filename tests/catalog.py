"""Shapes for the tests, found without the program's own reckoning."""

from functools import cmp_to_key
from itertools import combinations, product
from math import gcd

EDGE = 10 ** 7 - 1

POINT = [(2, -3)]
LEVEL = [(-1, 2), (3, 2)]
UPRIGHT = [(1, -2), (1, 4)]
RISING = [(-2, -1), (2, 5)]
FALLING = [(4, -1), (-2, 2)]
TRIANGLE = [(0, 0), (3, 0), (0, 3)]
TIPPED = [(1, -2), (4, 1), (-2, 3)]
SQUARE = [(-1, -1), (2, -1), (2, 2), (-1, 2)]
HEXAGON = [(1, 0), (2, 0), (3, 1), (2, 2), (1, 2), (0, 1)]
HUGE = [(-EDGE, -EDGE), (EDGE, -EDGE), (EDGE, EDGE), (-EDGE, EDGE)]
SHAPES = (POINT, LEVEL, UPRIGHT, RISING, FALLING, TRIANGLE, TIPPED, SQUARE, HEXAGON, HUGE)

# Each is no shape, for another reason.
NO_SHAPES = {
    "empty": [],
    "two points alike": [(1, 1), (1, 1)],
    "stick from its other end": [(3, 2), (-1, 2)],
    "upright stick from its other end": [(0, 1), (0, 0)],
    "slanting stick from its other end": [(-2, 2), (4, -1)],
    "begun at another corner": [(3, 0), (0, 3), (0, 0)],
    "begun at the other lowest corner": [(2, -1), (2, 2), (-1, 2), (-1, -1)],
    "turned round": [(0, 0), (0, 3), (3, 0)],
    "square turned round": [(-1, -1), (-1, 2), (2, 2), (2, -1)],
    "a corner twice": [(0, 0), (3, 0), (3, 0), (0, 3)],
    "first corner again at the end": [(0, 0), (3, 0), (0, 3), (0, 0)],
    "first corner twice": [(0, 0), (0, 0), (3, 0), (0, 3)],
    "three points alike": [(0, 0), (0, 0), (0, 0)],
    "corner amid the first side": [(0, 0), (1, 0), (3, 0), (0, 3)],
    "corner amid a side": [(0, 0), (3, 0), (2, 1), (0, 3)],
    "corner amid the last side": [(0, 0), (3, 0), (0, 3), (0, 2)],
    "three on one line": [(0, 0), (1, 1), (2, 2)],
    "three on one level line": [(0, 0), (1, 0), (2, 0)],
    "two corners changed about": [(-1, -1), (2, 2), (2, -1), (-1, 2)],
    "last two changed about": [(-1, -1), (2, -1), (-1, 2), (2, 2)],
    "a dent": [(0, 0), (4, 0), (1, 1), (0, 4)],
    "round twice": [(0, 0), (3, 0), (0, 3), (0, 0), (3, 0), (0, 3)],
    "a star, left at each corner": [(2, -3), (3, 2), (-3, 0), (3, -1), (-1, 2)],
    "there and back again": [(0, 0), (1, 0), (0, 0), (1, 0)],
}


def turning(start, middle, end):
    return ((middle[0] - start[0]) * (end[1] - middle[1])
            - (middle[1] - start[1]) * (end[0] - middle[0]))


def between(start, point, end):
    if turning(start, point, end) != 0:
        return False
    return (min(start[0], end[0]) <= point[0] <= max(start[0], end[0])
            and min(start[1], end[1]) <= point[1] <= max(start[1], end[1]))


def in_triangle(point, three):
    a, b, c = three
    turns = (turning(a, b, point), turning(b, c, point), turning(c, a, point))
    if turning(a, b, c) == 0:
        return any(between(p, point, q) for p, q in combinations(three, 2))
    return all(t >= 0 for t in turns) or all(t <= 0 for t in turns)


def spanned(point, points):
    """Whether the point lies in the least shape of the points: then some three, two or one of them have it."""
    if point in points:
        return True
    if any(between(p, point, q) for p, q in combinations(points, 2)):
        return True
    return any(in_triangle(point, three) for three in combinations(points, 3))


def slow_hull(points):
    """The corners are the points that the others do without; round the first one they go by their turn."""
    apart = sorted(set(points), key=lambda p: (p[1], p[0]))
    corners = [p for p in apart if not spanned(p, [q for q in apart if q != p])]
    first = corners[0]
    return [first] + sorted(corners[1:], key=cmp_to_key(lambda p, q: -turning(first, p, q)))


def small_shapes():
    """All shapes within 3 by 3 points, each once for all places it may lie in, its first corner at (0, 0)."""
    grid = list(product(range(3), range(3)))
    found = {}
    for size in range(1, 10):
        for points in combinations(grid, size):
            corners = slow_hull(points)
            found[tuple(shifted(corners, (-corners[0][0], -corners[0][1])))] = True
    return [list(corners) for corners in found]


def shifted(corners, arrow):
    return [(x + arrow[0], y + arrow[1]) for x, y in corners]


def steps(corners):
    """How often each least arrow is gone, in the order of the sides."""
    if len(corners) == 1:
        return {}
    gone = {}
    for (a, b), (c, d) in zip(corners, corners[1:] + corners[:1]):
        times = gcd(c - a, d - b)
        gone[((c - a) // times, (d - b) // times)] = times
    return gone


def many_corners():
    """A field with 80 corners: its sides are 20 least arrows of each quarter, by their slopes."""
    quarter = [(x, y) for x in range(1, 8) for y in range(0, 8) if gcd(x, y) == 1]
    quarter = sorted(quarter, key=cmp_to_key(lambda p, q: p[1] * q[0] - q[1] * p[0]))[:20]
    arrows = list(quarter)
    for _ in range(3):
        arrows = arrows + [(-y, x) for x, y in arrows[-20:]]
    corners = [(0, 0)]
    for x, y in arrows[:-1]:
        corners.append((corners[-1][0] + x, corners[-1][1] + y))
    return corners
