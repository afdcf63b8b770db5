"""The steps of a shape, and how it is parted in two."""

from roundsum.arrows import corners_along, least_arrow, moved, times_gone
from roundsum.errors import TooLong
from roundsum.shapes import sides
from roundsum.sums import made_one

MOST_STEPS = 10


def steps_of(corners):
    steps = []
    for side in sides(corners):
        steps.extend([least_arrow(side)] * times_gone(side))
    return steps


# The steps are counted ahead of being listed: a shape may have millions of them.
def refuse_too_long(corners):
    if sum([times_gone(side) for side in sides(corners)]) > MOST_STEPS:
        raise TooLong("a shape of more than 10 steps is not parted")


# Both of a pair keep the order of the steps, so both can be walked as sides.
def ways_to_part(steps):
    pairs = [([], [])]
    for step in steps:
        taking = [(chosen + [step], rest) for chosen, rest in pairs]
        leaving = [(chosen, rest + [step]) for chosen, rest in pairs]
        pairs = taking + leaving
    return pairs


def come_to_nought(arrows):
    end = (0, 0)
    for arrow in arrows:
        end = moved(end, arrow)
    return end == (0, 0)


# All steps come to nought together, so where the chosen ones do the rest does too.
def parted(corners):
    refuse_too_long(corners)
    for chosen, rest in ways_to_part(steps_of(corners)):
        if len(chosen) > 0 and len(rest) > 0 and come_to_nought(chosen):
            return (corners_along(corners[0], made_one(chosen)), corners_along((0, 0), made_one(rest)))
    return None
