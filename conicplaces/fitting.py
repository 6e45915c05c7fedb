"""Rests that fit a plain curve by a power of a prime."""

from conicplaces.errors import BadPlace, NoPlace
from conicplaces.places import bad_places
from conicplaces.primes import is_prime
from conicplaces.rests import back_by
from conicplaces.roots import root_by_prime
from conicplaces.signs import sign_by


def fitting_rests(a, b, c, prime, k):
    bad = bad_places(a, b, c)
    if not is_prime(prime):
        raise NoPlace("rests are told by the powers of a prime alone")
    if prime in bad:
        raise BadPlace(prime)
    return tuple(rests_found([a, b, c], prime, product_of_alike(prime, k)))


def product_of_alike(factor, k):
    product = 1
    for turn in range(k):
        product = product * factor
    return product


# Each of the three may have to lead; where the place isn't bad, one of them can.
def rests_found(numbers, prime, power):
    for lead in range(3):
        found = rests_led(numbers[lead:] + numbers[:lead], prime, power)
        if found != []:
            return found[3 - lead:] + found[:3 - lead]


# The prime divides neither the first rest nor its coefficient, and the first one's square is what the two others
# ask for; where they never ask for one that has a root, the list told has no rests.
# All rests may be multiplied by what the prime doesn't divide, so the third, if it isn't divided, may be 1; if it is,
# the second isn't, nor the second's coefficient, and with the second in the lead the first is the third and may be 1.
# The second is tried up to the prime itself for the sake of 8, by which squares are those of 0, 1 and 2. By the first
# power the prime asks for nothing that 0 didn't ask for, so the second that is told is below the power.
def rests_led(numbers, prime, power):
    if numbers[0] % prime == 0:
        return []
    over = -back_by(numbers[0], power)
    for second in range(prime + 1):
        square = over * (numbers[1] * second * second + numbers[2]) % power
        if has_lasting_root(square, prime):
            return [lasting_root(square, prime, power), second, 1]
    return []


# Whether the number has a root by every power of the prime and the prime doesn't divide it.
def has_lasting_root(number, prime):
    if prime == 2:
        return number % 8 == 1
    return sign_by(number, prime) == 1


def lasting_root(number, prime, power):
    if prime == 2:
        return root_by_power_of_two(number, power)
    return root_by_odd_power(number, prime, power)


# Where the square fits by some power of the prime, a round later it fits by the square of that power.
def root_by_odd_power(number, prime, power):
    root = root_by_prime(number, prime)
    while (root * root - number) % power != 0:
        root = (root - (root * root - number) * back_by(2 * root, power)) % power
    return root


# Where an odd root's square fits by a power of 2 and not by twice that power, half of the power added to the root
# makes up for it.
def root_by_power_of_two(number, power):
    root = 1
    fitted = 8
    while fitted < power:
        if (root * root - number) % (2 * fitted) != 0:
            root = root + fitted // 2
        fitted = 2 * fitted
    return root
