"""All points of a curve, seen from one of them: each has two numbers, and each two numbers have a point."""

from conicplaces.errors import NoPair, OffCurve
from conicplaces.sums import AXES, added, crossing_of, lowest_point, refuse_flat, row_product, slopes_of, stretched
from conicplaces.sums import turned_by, worth_of

# The two ways beside a point, by the last of its numbers that isn't 0.
WAYS = ((1, 2), (0, 2), (0, 1))


def point_by(Q, P, m, n):
    refuse_flat(Q)
    start = point_on(Q, P)
    if m == 0 and n == 0:
        raise NoPair("0 and 0 tell no direction")
    return lowest_point(led_to(Q, start, m, n))


# The worth of i P + j D is i j times the slopes' product with D and j j times the worth of D; so beside P, where j is
# 0, it is 0 just for the i and j taken here. The ways lead off P, so the point made is never three noughts.
def led_to(Q, start, m, n):
    ways = WAYS[last_of(start)]
    direction = added(stretched(AXES[ways[0]], m), stretched(AXES[ways[1]], n))
    slope = row_product(turned_by(slopes_of(Q), start), direction)
    return added(stretched(start, worth_of(Q, direction)), stretched(direction, -slope))


# The direction is where the line through both points, or the line that touches the curve where they are one, has no
# part in the way that is left out.
def numbers_of(Q, P, other):
    refuse_flat(Q)
    start = point_on(Q, P)
    end = point_on(Q, other)
    line = turned_by(slopes_of(Q), start) if end == start else crossing_of(start, end)
    last = last_of(start)
    ways = WAYS[last]
    direction = lowest_point(crossing_of(line, AXES[last]))
    return (direction[ways[0]], direction[ways[1]])


def point_on(Q, P):
    if not any(P) or worth_of(Q, P) != 0:
        raise OffCurve("this is no point of the curve")
    return lowest_point(P)


def last_of(point):
    return max([place for place in range(3) if point[place] != 0])
