"""The plain three of a sum: a table that leaves nothing of it but three squares, plain ones, and a scale."""

from conicplaces.primes import core_of
from conicplaces.sums import AXES, added, crossing_of, lowest_point, refuse_flat, size_of, slopes_of, stretched
from conicplaces.sums import turned_by, turned_over, worth_of
from conicplaces.wholes import root_of, shares_of

TURNS = ((0, 1, 2), (1, 2, 0), (2, 0, 1))


# A corner stretched t times has t t times its worth. Stretched by the others' roots, the corners have the cores times
# one square; a part that two cores share goes over to the third core, whose corner is stretched by it, and so a part
# that all three share goes out of all of them.
# With coefficients to 100 the worth at the first corner is to 100, the one at the second to 6 * 100 * 300 * 300, the
# size to 8 * 10 ** 6. A prime of the first or of the second plain number divides one of these two worths, and a prime
# of the third divides the size or the first worth. None has a square in it, so none is above 10 ** 10.
def plain_of(Q):
    refuse_flat(Q)
    corners = corners_of(Q)
    worths = [worth_of(Q, corner) for corner in corners]
    cores = cores_of(worths, size_of(Q))
    roots = [root_of(worth // core) for worth, core in zip(worths, cores)]
    shared = [shares_of(cores[second], cores[third])[0] for first, second, third in TURNS]
    plain = [cores[first] * shared[first] // (shared[second] * shared[third]) for first, second, third in TURNS]
    stretches = lowest_point([shared[first] * roots[second] * roots[third] for first, second, third in TURNS])
    scale = worths[0] * stretches[0] * stretches[0] // plain[0]
    columns = [stretched(corner, stretch) for corner, stretch in zip(corners, stretches)]
    return (turned_over(columns), scale, tuple(plain))


# Each of the three corners lies on the lines that the slopes at the two others tell, so that no mixed term is left
# where they are the columns of a table.
def corners_of(Q):
    first = off_curve(Q, AXES)
    return (first,) + corners_on(Q, turned_by(slopes_of(Q), first))


# The slopes' line at the first of the two doesn't go through it, since the worth isn't 0 there; so it is another line
# than the one handed in, and they cross in a second point.
def corners_on(Q, line):
    first = lowest_point(off_curve(Q, [crossing_of(line, axis) for axis in AXES]))
    return (first, lowest_point(crossing_of(line, turned_by(slopes_of(Q), first))))


# Were the worth 0 at all the points and at each two of them added up, it would be 0 at whatever is made of them;
# so it isn't, neither on the whole plane nor on any line, where the size isn't 0.
def off_curve(Q, points):
    tried = list(points)
    for one in points:
        tried.extend([added(one, other) for other in points])
    return [point for point in tried if worth_of(Q, point) != 0][0]


# The product of the three worths is the size times a square; so the third core is told by smaller numbers than
# the worth at the third corner.
def cores_of(worths, size):
    first = core_of(worths[0])[0]
    second = core_of(worths[1])[0]
    return (first, second, core_of_cores(core_of_cores(first, second), core_of(size)[0]))


def core_of_cores(one, other):
    shared = shares_of(one, other)[0]
    return one // shared * (other // shared)
