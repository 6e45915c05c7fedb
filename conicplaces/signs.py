"""Powers by a number, and the sign that tells squares from others by an odd prime."""

from conicplaces.errors import NoSign
from conicplaces.primes import taken_out


# k is read by its binary figures from the last on; the factor is squared at each, so k may be great.
def power_by(number, k, n):
    power = 1 % n
    factor = number % n
    left = k
    while left > 0:
        if left % 2 == 1:
            power = power * factor % n
        factor = factor * factor % n
        left = left // 2
    return power


# By reciprocity the two numbers change places as in the search for their greatest divisor, so that n need
# not be parted into primes. If the last divisor is above 1, a prime of n divides the number.
def sign_by(number, n):
    if n < 1 or n % 2 == 0:
        raise NoSign("signs are told by odd whole numbers from 1 on alone")
    sign = 1
    top = number % n
    bottom = n
    while top != 0:
        twos = taken_out(top, 2)
        odd = twos[1]
        if twos[0] % 2 == 1:
            sign = sign * sign_of_two(bottom)
        sign = sign * sign_of_turn(odd, bottom)
        top = bottom % odd
        bottom = odd
    return sign if bottom == 1 else 0


# The sign of 2 by an odd number, whichever sign that number has.
def sign_of_two(odd):
    return -1 if odd % 8 in (3, 5) else 1


# What it costs that two odd numbers change places.
def sign_of_turn(one, other):
    return -1 if one % 4 == 3 and other % 4 == 3 else 1
