"""What several tests need to try things out by themselves, without the program."""
import functools
import itertools
import math

# Of 300 figures: a power of ten is prime to every number that neither 2 nor 5 divides.
TEN = 10 ** 299
ODD = 3 ** 628
# The three greatest primes below 10 ** 6.
NEAR = (999961, 999979, 999983)
# Each with another fault: a 0, the square of a prime in one of them, a prime in two of them.
NOT_PLAIN = ((0, 1, 1), (1, 0, -1), (1, -1, 0), (0, 0, 0), (4, 1, 1), (1, 9, -1), (1, 1, -25), (-4, 3, 5), (12, 5, 7),
             (2, 2, 1), (2, -1, 6), (1, 15, -10), (-3, -3, -3), (6, 5, -9), (997 ** 2, 2, 3), (2, -7 * 997, 997),
             (10 ** 6, 3, 7), (NEAR[2], 1, -NEAR[2]), (2, 3, 499979 * 2))


@functools.cache
def primes_of(number):
    """All primes of a number, rising, each as often as it is there."""
    divisor = 2
    while divisor * divisor <= number and number % divisor != 0:
        divisor += 1
    if divisor * divisor > number:
        return (number,) if number > 1 else ()
    return (divisor, *primes_of(number // divisor))


@functools.cache
def squares_by(n):
    """The rests of all squares by n."""
    return frozenset(x * x % n for x in range(n))


def plain_by_trial(a, b, c):
    primes = [p for number in (a, b, c) for p in primes_of(abs(number))]
    return 0 not in (a, b, c) and len(primes) == len(set(primes))


@functools.cache
def squares_by_power(prime, power):
    rests = range(prime ** power)
    units = {x * x % prime ** power for x in rests if x % prime != 0}
    return units, squares_by(prime ** power)


def rests_fit(a, b, c, prime, power):
    """Tries all rests, of which the prime doesn't divide all three, by way of their squares."""
    units, squares = squares_by_power(prime, power)
    for first, second, third in ((a, b, c), (b, c, a), (c, a, b)):
        met = {-third * z % prime ** power for z in squares}
        if any((first * x + second * y) % prime ** power in met for x in units for y in squares):
            return True
    return False


def fits_by_trial(a, b, c, prime):
    """Whether the prime isn't bad for plain a, b, c: by all rests, or by Euler's power where an odd prime is great."""
    if prime < 20:
        return rests_fit(a, b, c, prime, 3 if prime == 2 else 2)
    others = [product for one, product in ((a, -b * c), (b, -c * a), (c, -a * b)) if one % prime == 0]
    return others == [] or pow(others[0], (prime - 1) // 2, prime) == 1


def bad_by_trial(a, b, c):
    primes = sorted({2, *primes_of(abs(a)), *primes_of(abs(b)), *primes_of(abs(c))})
    bad = [prime for prime in primes if not fits_by_trial(a, b, c, prime)]
    return [0, *bad] if (a > 0) == (b > 0) == (c > 0) else bad


def plain_triples(bound):
    numbers = [n for n in range(-bound, bound + 1) if n != 0]
    return [three for three in itertools.product(numbers, repeat=3) if plain_by_trial(*three)]


def worth_by_hand(total, point):
    a, b, c, d, e, f = total
    x, y, z = point
    return a * x * x + b * y * y + c * z * z + d * y * z + e * x * z + f * x * y


def turned_by_hand(table, point):
    return tuple(sum(number * part for number, part in zip(row, point)) for row in table)


def changed_by_hand(total, table):
    """Each of the three numbers of a turned point is a sum of terms; they are multiplied out term by term."""
    made = dict.fromkeys(((0, 0), (1, 1), (2, 2), (1, 2), (0, 2), (0, 1)), 0)
    for coefficient, (one, other) in zip(total, made.copy()):
        for i, j in itertools.product(range(3), repeat=2):
            made[min(i, j), max(i, j)] += coefficient * table[one][i] * table[other][j]
    return tuple(made.values())


def measure_by_hand(table):
    (p, q, r), (s, t, u), (v, w, x) = table
    return p * (t * x - u * w) - q * (s * x - u * v) + r * (s * w - t * v)


def slopes_by_hand(total, point):
    a, b, c, d, e, f = total
    x, y, z = point
    return (2 * a * x + f * y + e * z, f * x + 2 * b * y + d * z, e * x + d * y + 2 * c * z)


def core_by_hand(number):
    """The number without its squares, with its sign."""
    primes = primes_of(abs(number))
    core = math.prod(prime for prime in set(primes) if primes.count(prime) % 2 == 1)
    return core if number > 0 else -core


def lowest_by_hand(point):
    divisor = math.gcd(*point)
    if next(number for number in point if number != 0) < 0:
        divisor = -divisor
    return tuple(number // divisor for number in point)


def is_lowest(point):
    """Whether it is a point in lowest terms."""
    if type(point) is not tuple or [type(number) for number in point] != [int, int, int]:
        return False
    return math.gcd(*point) == 1 and next(number for number in point if number != 0) > 0


def is_vertex(total, point):
    return is_lowest(point) and slopes_by_hand(total, point) == (0, 0, 0)
