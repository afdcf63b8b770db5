"""The double area of a shape, and the mixed area of two."""

from roundsum.arrows import turn
from roundsum.shapes import sides
from roundsum.sums import together


# Each side spans a triangle with (0, 0). Those that have (0, 0) on their right count below
# nought, so what lies outside of the shape goes off again, wherever the shape lies.
def double_area(corners):
    return sum([turn(corner, side) for corner, side in zip(corners, sides(corners))])


def mixed(one, other):
    both = together(one, other)
    return double_area(both) - double_area(one) - double_area(other)
