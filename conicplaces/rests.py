"""Rests: the back of a number, and two rests joined to one."""

from conicplaces.errors import NoBack, NoJoin
from conicplaces.wholes import shares_of


# A multiple of the number and one of n come to 1, so that multiple of the number fits 1 by n.
def back_by(number, n):
    shares = shares_of(number, n)
    if shares[0] != 1:
        raise NoBack(shares[0])
    return shares[1] % n


# Adding multiples of n keeps what fits r by n. As u times n and v times m come to the greatest divisor, r and
# steps times u times n come to s less steps times v times m, which fits s by m.
def joined_rests(r, n, s, m):
    shares = shares_of(n, m)
    greatest = shares[0]
    if (s - r) % greatest != 0:
        raise NoJoin(greatest)
    least = n // greatest * m
    steps = (s - r) // greatest
    return ((r + shares[1] * n * steps) % least, least)
