"""Reckoning with points and arrows, on which all the other modules rest."""


def arrow_from(start, end):
    return (end[0] - start[0], end[1] - start[1])


def moved(point, arrow):
    return (point[0] + arrow[0], point[1] + arrow[1])


def stretched(arrow, times):
    return (arrow[0] * times, arrow[1] * times)


def product(one, other):
    return one[0] * other[0] + one[1] * other[1]


# Above nought where the other arrow points to the left of the one, below where to the right.
def turn(one, other):
    return one[0] * other[1] - one[1] * other[0]


# The first half of the round holds straight right but not straight left: so two arrows
# of one half are never opposite, and their turn alone tells their order.
def in_first_half(arrow):
    return arrow[1] > 0 or (arrow[1] == 0 and arrow[0] > 0)


def goes_before(one, other):
    if in_first_half(one) != in_first_half(other):
        return in_first_half(one)
    return turn(one, other) > 0


def same_way(one, other):
    return turn(one, other) == 0 and product(one, other) > 0


# The greatest common divisor of its numbers is how often an arrow goes its least arrow.
def times_gone(arrow):
    divisor = abs(arrow[0])
    rest = abs(arrow[1])
    while rest != 0:
        remainder = divisor % rest
        divisor = rest
        rest = remainder
    return divisor


def least_arrow(arrow):
    times = times_gone(arrow)
    return (arrow[0] // times, arrow[1] // times)


# The last arrow leads back to the first corner, which is there already.
def corners_along(first, arrows):
    corners = [first]
    for arrow in arrows[:-1]:
        corners.append(moved(corners[-1], arrow))
    return corners
