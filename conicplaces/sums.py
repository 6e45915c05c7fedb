"""Sums of the second degree, points and tables: their worth, how tables change them, and a sum's vertex."""

from conicplaces.errors import Flat, NoVertex
from conicplaces.wholes import shares_of

AXES = ((1, 0, 0), (0, 1, 0), (0, 0, 1))


def worth_of(Q, P):
    products = (P[0] * P[0], P[1] * P[1], P[2] * P[2], P[1] * P[2], P[0] * P[2], P[0] * P[1])
    return sum([coefficient * product for coefficient, product in zip(Q, products)])


# The coefficient of a square is the worth at a column, to which the table turns an axis. A mixed one is what the
# worth at two columns added up has beyond the worths at both, and that is the one's slopes times the other.
def changed_by(Q, table):
    columns = turned_over(table)
    slopes = [turned_by(slopes_of(Q), column) for column in columns]
    squares = [worth_of(Q, column) for column in columns]
    mixed = [row_product(slopes[one], columns[other]) for one, other in ((1, 2), (0, 2), (0, 1))]
    return tuple(squares + mixed)


def put_together(one, other):
    columns = turned_over(other)
    return tuple([turned_by(columns, row) for row in one])


def measure_of(table):
    return row_product(table[0], crossing_of(table[1], table[2]))


def size_of(Q):
    return (4 * Q[0] * Q[1] * Q[2] + Q[3] * Q[4] * Q[5]
            - Q[0] * Q[3] * Q[3] - Q[1] * Q[4] * Q[4] - Q[2] * Q[5] * Q[5])


def lowest_point(P):
    divisor = shares_of(shares_of(P[0], P[1])[0], P[2])[0]
    if [number for number in P if number != 0][0] < 0:
        divisor = -divisor
    return (P[0] // divisor, P[1] // divisor, P[2] // divisor)


# Where two of the slopes' rows aren't multiples of one row, the third is made of them, and their crossing is on
# all three. Else whatever is on one row that isn't all 0 is on all of them; and every point is on rows of noughts.
def vertex_of(Q):
    if size_of(Q) != 0:
        raise NoVertex("only a sum of the size 0 has a vertex")
    slopes = slopes_of(Q)
    crossings = crossings_of(slopes, slopes) + crossings_of(slopes, AXES) + crossings_of(AXES, AXES)
    return lowest_point([crossing for crossing in crossings if any(crossing)][0])


def refuse_flat(Q):
    if size_of(Q) == 0:
        raise Flat(vertex_of(Q))


# The table that turns a point to the three slopes of the sum at it.
def slopes_of(Q):
    return ((2 * Q[0], Q[5], Q[4]), (Q[5], 2 * Q[1], Q[3]), (Q[4], Q[3], 2 * Q[2]))


def turned_by(table, P):
    return (row_product(table[0], P), row_product(table[1], P), row_product(table[2], P))


def added(one, other):
    return (one[0] + other[0], one[1] + other[1], one[2] + other[2])


def stretched(P, times):
    return (P[0] * times, P[1] * times, P[2] * times)


def row_product(row, P):
    return row[0] * P[0] + row[1] * P[1] + row[2] * P[2]


def turned_over(table):
    return tuple([(table[0][place], table[1][place], table[2][place]) for place in range(3)])


# The point that is on both lines; three noughts where the lines are one.
def crossing_of(one, other):
    return (one[1] * other[2] - one[2] * other[1],
            one[2] * other[0] - one[0] * other[2],
            one[0] * other[1] - one[1] * other[0])


def crossings_of(lines, others):
    crossings = []
    for one in lines:
        crossings.extend([crossing_of(one, other) for other in others])
    return crossings
