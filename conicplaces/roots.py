"""Roots of a number by n: all of them, or one of them or a prime that allows none."""

from conicplaces.primes import prime_parts, taken_out
from conicplaces.rests import joined_rests
from conicplaces.signs import power_by, sign_by


def roots_by(number, n):
    wanted = number % n
    return [x for x in range(n) if x * x % n == wanted]


# By unlike primes roots always join to a root by their product, so it is missing only where one of them is.
# With a root w the rest n - w is one too, and the smaller of the two is no more than half of n.
def root_or_prime(number, n):
    joined = (0, 1)
    for prime, often in prime_parts(n):
        if not has_root(number, prime):
            return ("none", prime)
        joined = joined_rests(joined[0], joined[1], root_by_prime(number, prime), prime)
    return ("root", min(joined[0], n - joined[0]))


def has_root(number, prime):
    return prime == 2 or sign_by(number, prime) != -1


def root_by_prime(number, prime):
    if prime == 2 or number % prime == 0:
        return number % prime
    return root_by_odd_prime(number, prime)


# The square of root fits the number times over, all the way; so what is sought is that over fits 1. At the
# beginning of each round the power 2 * half of over fits 1, so its power half fits 1 or -1. Where it fits -1,
# the square of turner is taken in, whose power half fits -1 as well. In the last round half is 1.
def root_by_odd_prime(number, prime):
    odd = taken_out(prime - 1, 2)[1]
    root = power_by(number, (odd + 1) // 2, prime)
    over = power_by(number, odd, prime)
    turner = power_by(least_without_root(prime), odd, prime)
    half = (prime - 1) // odd // 4
    while half > 0:
        if power_by(over, half, prime) != 1:
            root = root * turner % prime
            over = over * turner * turner % prime
        turner = turner * turner % prime
        half = half // 2
    return root


def least_without_root(prime):
    number = 2
    while has_root(number, prime):
        number = number + 1
    return number
