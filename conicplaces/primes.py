"""Prime parts of whole numbers, and their cores without squares."""

from conicplaces.errors import NoNumber


# A divisor that still divides what is left is a prime, since all smaller primes are out of it by then;
# and what is left is a prime itself once no number up to its root divides it.
def prime_parts(number):
    if number < 1:
        raise NoNumber("only whole numbers from 1 on have prime parts")
    parts = []
    left = number
    divisor = 2
    while divisor * divisor <= left:
        if left % divisor == 0:
            taken = taken_out(left, divisor)
            parts.append((divisor, taken[0]))
            left = taken[1]
        divisor = divisor_after(divisor)
    if left > 1:
        parts.append((left, 1))
    return parts


# Above 2 only odd numbers can be primes.
def divisor_after(divisor):
    if divisor == 2:
        return 3
    return divisor + 2


# How often the prime divides the number, which is not 0, and what is left of the number, with its sign.
def taken_out(number, prime):
    often = 0
    left = number
    while left % prime == 0:
        left = left // prime
        often = often + 1
    return (often, left)


def is_prime(number):
    return number > 1 and prime_parts(number) == [(number, 1)]


def core_of(number):
    if number == 0:
        raise NoNumber("0 has no core")
    core = -1 if number < 0 else 1
    root = 1
    for prime, often in prime_parts(abs(number)):
        if often % 2 == 1:
            core = core * prime
        for turn in range(often // 2):
            root = root * prime
    return (core, root)


def is_without_squares(number):
    return number != 0 and core_of(number)[1] == 1
