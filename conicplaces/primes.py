"""Prime parts of whole numbers, and their cores without squares."""

from conicplaces.errors import NoNumber


# A divisor that still divides what is left is a prime, since all smaller primes are out of it by then;
# and what is left is a prime itself once no number up to its root divides it.
def prime_parts(number):
    if number < 1:
        raise NoNumber("only whole numbers from 1 on have prime parts")
    parts = []
    left = number
    divisor = 2
    while divisor * divisor <= left:
        often = 0
        while left % divisor == 0:
            left = left // divisor
            often = often + 1
        if often > 0:
            parts.append((divisor, often))
        divisor = divisor_after(divisor)
    if left > 1:
        parts.append((left, 1))
    return parts


# Above 2 only odd numbers can be primes.
def divisor_after(divisor):
    if divisor == 2:
        return 3
    return divisor + 2


def core_of(number):
    if number == 0:
        raise NoNumber("0 has no core")
    core = -1 if number < 0 else 1
    root = 1
    for prime, often in prime_parts(abs(number)):
        if often % 2 == 1:
            core = core * prime
        for turn in range(often // 2):
            root = root * prime
    return (core, root)
