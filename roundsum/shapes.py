"""Shapes by their corners: which lists are shapes, their sides, their points and their reach."""

from roundsum.arrows import arrow_from, goes_before, product, turn
from roundsum.errors import NoPoints, NoShape

MOST_POINTS = 40


def arrows_round(corners):
    return [arrow_from(start, end) for start, end in zip(corners, corners[1:] + corners[:1])]


# Sides that go strictly in order come round just once, and they begin at the corner
# that is first in order: neither needs a look of its own. The same holds of a stick.
def is_shape(corners):
    if len(corners) < 2:
        return len(corners) == 1
    arrows = arrows_round(corners)
    if (0, 0) in arrows:
        return False
    return all([goes_before(arrow, later) for arrow, later in zip(arrows, arrows[1:])])


def refuse_no_shape(corners):
    if not is_shape(corners):
        raise NoShape("these corners are not those of a shape")


def sides(corners):
    refuse_no_shape(corners)
    if len(corners) == 1:
        return []
    return arrows_round(corners)


def in_order(points):
    heights_first = sorted(set([(point[1], point[0]) for point in points]))
    return [(right, up) for up, right in heights_first]


# A point where the way goes straight on or turns right is no corner, whatever comes later.
def left_turns(points):
    kept = []
    for point in points:
        while len(kept) > 1 and turn(arrow_from(kept[-2], kept[-1]), arrow_from(kept[-1], point)) <= 0:
            kept.pop()
        kept.append(point)
    return kept


def hull(points):
    if not 1 <= len(points) <= MOST_POINTS:
        raise NoPoints("a shape is told of 1 to 40 points")
    ordered = in_order(points)
    if len(ordered) == 1:
        return ordered
    upward = left_turns(ordered)
    downward = left_turns(list(reversed(ordered)))
    return upward[:-1] + downward[:-1]


def holds(corners, point):
    arrows = sides(corners)
    if len(corners) == 1:
        return point == corners[0]
    for start, arrow in zip(corners, arrows):
        if turn(arrow, arrow_from(start, point)) < 0:
            return False
    # No point is right of a stick's line or left of it by now, but it may lie beyond an end.
    return len(corners) > 2 or product(arrow_from(point, corners[0]), arrow_from(point, corners[1])) <= 0


# A product is greatest at some corner, so the other points need no look.
def reach(corners, arrow):
    refuse_no_shape(corners)
    return max([product(corner, arrow) for corner in corners])
