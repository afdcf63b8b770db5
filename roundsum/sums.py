"""Shapes put together, taken so many times, and taken off again."""

from roundsum.arrows import arrow_from, corners_along, goes_before, least_arrow, moved, same_way, stretched, times_gone
from roundsum.errors import NoNumber
from roundsum.shapes import refuse_no_shape, sides

MOST_TIMES = 1000000


def all_in_order(ones, others):
    ordered = []
    done = 0
    for arrow in ones:
        while done < len(others) and goes_before(others[done], arrow):
            ordered.append(others[done])
            done += 1
        ordered.append(arrow)
    return ordered + others[done:]


def made_one(arrows):
    joined = []
    for arrow in arrows:
        if len(joined) > 0 and same_way(joined[-1], arrow):
            joined[-1] = moved(joined[-1], arrow)
        else:
            joined.append(arrow)
    return joined


def together(one, other):
    ones = sides(one)
    others = sides(other)
    return corners_along(moved(one[0], other[0]), made_one(all_in_order(ones, others)))


def greater(corners, times):
    refuse_no_shape(corners)
    if not 0 <= times <= MOST_TIMES:
        raise NoNumber("a shape is taken from 0 to 1000000 times")
    if times == 0:
        return [(0, 0)]
    return [stretched(corner, times) for corner in corners]


# Where no side points that way it is an arrow that goes nowhere, nought times.
def side_like(arrow, arrows):
    for side in arrows:
        if same_way(side, arrow):
            return side
    return (0, 0)


def taken_off(one, other):
    ones = sides(one)
    others = sides(other)
    for arrow in others:
        if times_gone(arrow) > times_gone(side_like(arrow, ones)):
            return ("no", least_arrow(arrow))
    rests = [arrow_from(side_like(arrow, others), arrow) for arrow in ones]
    rests = [rest for rest in rests if rest != (0, 0)]
    return ("yes", corners_along(arrow_from(other[0], one[0]), rests))
