"""Small points of plain curves without bad places."""

from conicplaces.errors import BadPlace
from conicplaces.places import bad_places
from conicplaces.rests import back_by, joined_rests
from conicplaces.roots import root_or_prime
from conicplaces.sums import added, lowest_point, row_product, slopes_of, stretched, turned_by, worth_of


# Call |a| xx + |b| yy + |c| zz the length of a point. At all points that are made of the settled vectors the worth is a
# multiple of 2abc, and they are one in |2abc| of all points. So the product of the three lengths is, by Gauss, no more
# than 2 * |abc| * |2abc| * |2abc|, which is the cube of |2abc|.
# Where the first length is less than |2abc|, the worth is 0 there. Else all three lengths are just that; and if the
# worth were 0 at none of them, it would be the length or its opposite at each. Then at each the number would be 0 whose
# coefficient has a sign of its own, or the two others would; at two of them the one and at the third the other, as
# they are on no plane through 0. But settled vectors of that kind are one in more than |2abc| points.
# As the worth is 0, the terms above 0 and those below come to half of the length each, to no more than |abc|, and that
# is what the bounds of x, y and z say.
def small_point(a, b, c):
    bad = bad_places(a, b, c)
    if bad != []:
        raise BadPlace(bad[0])
    Q = (a, b, c, 0, 0, 0)
    length = (abs(a), abs(b), abs(c), 0, 0, 0)
    settled = settled_vectors(evened_vectors(Q, fitted_vectors(a, b, c)), length)
    return lowest_point([vector for vector in settled if worth_of(Q, vector) == 0][0])


# Made of these are all points with y fitting s z by a, x fitting t z by b, and x fitting u y by c. So the worth at them
# is a multiple of abc, and they are one in |abc| of all points.
def fitted_vectors(a, b, c):
    s = ratio_by(b, c, abs(a))
    t = ratio_by(a, c, abs(b))
    u = ratio_by(a, b, abs(c))
    return [(b * c, 0, 0),
            (joined_rests(0, abs(b), u * a, abs(c))[0], a, 0),
            (joined_rests(t, abs(b), u * s, abs(c))[0], s, 1)]


# Its square, taken one times, and the other come to what fits 0.
def ratio_by(one, other, n):
    return root_or_prime(-one * other, n)[1] * back_by(one, n)


# In terms of these vectors the worth is abc times a sum of the size 4 whose mixed coefficients are even. So its rest by
# 2 is that of how many odd vectors, those with an odd coefficient, are taken; and there is an odd one, since with all
# six coefficients even the size would be a multiple of 8.
def evened_vectors(Q, vectors):
    product = Q[0] * Q[1] * Q[2]
    even = [vector for vector in vectors if worth_of(Q, vector) // product % 2 == 0]
    odd = [vector for vector in vectors if worth_of(Q, vector) // product % 2 == 1]
    return even + [stretched(odd[0], 2)] + [added(vector, odd[0]) for vector in odd[1:]]


# Settled vectors rise by their lengths, and none gets shorter where those ahead of it are added to it or taken from it.
def settled_vectors(vectors, length):
    settled = rising(vectors, length)
    shorter = shortened(settled, length)
    while shorter != settled:
        settled = rising(shorter, length)
        shorter = shortened(settled, length)
    return settled


def rising(vectors, length):
    return sorted(vectors, key=lambda vector: worth_of(length, vector))


# A vector that doesn't get shorter stays as it is, since of vectors with one length rising leaves the first ahead; so
# this comes to an end.
def shortened(vectors, length):
    first = vectors[0]
    second = drawn_to(vectors[1], first, length)
    third = drawn_to(drawn_to(vectors[2], first, length), second, length)
    return [first, second, rising(near_to(third, first, second), length)[0]]


# The multiple of the other vector is taken off that leaves the least.
def drawn_to(vector, other, length):
    whole = worth_of(length, other)
    times = (row_product(turned_by(slopes_of(length), other), vector) + whole) // (2 * whole)
    return rising([vector, added(vector, stretched(other, -times))], length)[0]


def near_to(vector, first, second):
    near = []
    for times in (0, 1, -1):
        beside = added(vector, stretched(first, times))
        near.extend([added(beside, stretched(second, others)) for others in (0, 1, -1)])
    return near
