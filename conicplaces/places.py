"""Places: where a plain curve has no point, and the sign of two numbers at a place."""

from conicplaces.errors import NoNumber, NoPlace, NotPlain
from conicplaces.primes import is_prime, is_without_squares, prime_parts, taken_out
from conicplaces.signs import sign_by, sign_of_turn, sign_of_two
from conicplaces.wholes import shares_of


def is_plain(a, b, c):
    if not all([is_without_squares(number) for number in (a, b, c)]):
        return False
    return all([shares_of(one, other)[0] == 1 for one, other in ((a, b), (b, c), (c, a))])


def bad_places(a, b, c):
    if not is_plain(a, b, c):
        raise NotPlain("a number is 0 or has a square in it, or a prime divides two of them")
    return places_without_point(a, b, c)


# Taken -c times, a xx + b yy + c zz = 0 says that -ac xx - bc yy is the square of c z; so there is no point at the
# place just where the sign of -ac and -bc at it is -1. That holds where a prime divides two of the three as well.
def places_without_point(a, b, c):
    return [place for place in places_in_question(a, b, c) if sign_at(-a * c, -b * c, place) == -1]


def places_in_question(a, b, c):
    odd_primes = []
    for number in (a, b, c):
        odd_primes.extend([prime for prime, often in prime_parts(abs(number)) if prime > 2])
    return [0, 2] + sorted(set(odd_primes))


def pair_sign(a, b, place):
    if a == 0 or b == 0:
        raise NoNumber("0 has no sign at a place")
    if place != 0 and not is_prime(place):
        raise NoPlace("a place is 0 or a prime")
    return sign_at(a, b, place)


def sign_at(a, b, place):
    if place == 0:
        return -1 if a < 0 and b < 0 else 1
    one = taken_out(a, place)
    other = taken_out(b, place)
    if place == 2:
        return sign_at_two(one, other)
    return sign_at_odd(one, other, place)


# Here and below, one and other are tuples (how often the prime divides a number, what is left of it).
# A prime that divides a number an even number of times makes a square, which changes no sign.
def sign_at_odd(one, other, prime):
    one_is_odd = one[0] % 2 == 1
    other_is_odd = other[0] % 2 == 1
    if one_is_odd and other_is_odd:
        return sign_by(-one[1] * other[1], prime)
    if one_is_odd:
        return sign_by(other[1], prime)
    if other_is_odd:
        return sign_by(one[1], prime)
    return 1


def sign_at_two(one, other):
    sign = sign_of_turn(one[1], other[1])
    if one[0] % 2 == 1:
        sign = sign * sign_of_two(other[1])
    if other[0] % 2 == 1:
        sign = sign * sign_of_two(one[1])
    return sign
