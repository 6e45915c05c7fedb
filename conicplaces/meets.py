"""Lines: the points that they have in common with a curve."""

from conicplaces.errors import NoLine
from conicplaces.plains import corners_on
from conicplaces.sums import added, lowest_point, refuse_flat, stretched, worth_of
from conicplaces.wholes import root_of


# On the line the two corners leave no mixed term: the worth of i times the first and j times the second is i i and j j
# times their worths, added up. With j the first one's worth, which isn't 0, it is 0 just where i i is the square here.
def line_met(Q, line):
    refuse_flat(Q)
    if not any(line):
        raise NoLine("three noughts tell no line")
    corners = corners_on(Q, line)
    worth = worth_of(Q, corners[0])
    square = -worth * worth_of(Q, corners[1])
    if square < 0:
        return []
    root = root_of(square)
    if root * root != square:
        return []
    end = stretched(corners[1], worth)
    return sorted(set([lowest_point(added(stretched(corners[0], times), end)) for times in (root, -root)]))
