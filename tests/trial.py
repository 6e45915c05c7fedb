"""What several tests need to try things out by themselves, without the program."""
import functools
import itertools
import math

# Of 300 figures: a power of ten is prime to every number that neither 2 nor 5 divides.
TEN = 10 ** 299
ODD = 3 ** 628
# The three greatest primes below 10 ** 6.
NEAR = (999961, 999979, 999983)
# Each with another fault: a 0, the square of a prime in one of them, a prime in two of them.
NOT_PLAIN = ((0, 1, 1), (1, 0, -1), (1, -1, 0), (0, 0, 0), (4, 1, 1), (1, 9, -1), (1, 1, -25), (-4, 3, 5), (12, 5, 7),
             (2, 2, 1), (2, -1, 6), (1, 15, -10), (-3, -3, -3), (6, 5, -9), (997 ** 2, 2, 3), (2, -7 * 997, 997),
             (10 ** 6, 3, 7), (NEAR[2], 1, -NEAR[2]), (2, 3, 499979 * 2))
CIRCLE = (1, 1, -1, 0, 0, 0)
MIXED = (0, 0, 0, 1, 1, 1)
# Curves, each with points of its own.
CURVES = {
    CIRCLE: ((1, 0, 1), (1, 0, -1), (0, 1, 1), (3, 4, 5), (5, -12, 13), (0, 1, -1)),
    MIXED: ((1, 0, 0), (0, 1, 0), (0, 0, 1), (2, 2, -1), (3, 6, -2)),
    (1, 0, -1, 5, 0, 3): ((0, 1, 0), (1, 0, 1), (1, 0, -1), (3, -1, 0), (7, 6, -5)),
    (-1, 1, 7, 0, 0, 0): ((1, 1, 0), (1, -1, 0), (4, 3, 1)),
    (0, 2, -3, 1, 0, 5): ((1, 0, 0), (0, 1, 1), (0, 3, -2), (2, -5, 0)),
    (0, -1, 0, 0, 1, 0): ((1, 0, 0), (0, 0, 1), (1, 1, 1), (4, -6, 9)),
    (0, 0, 1, 0, 0, -1): ((1, 0, 0), (0, 1, 0), (1, 1, -1), (25, 4, 10)),
    (2, 3, -5, 0, 0, 0): ((1, 1, 1), (1, -1, 1), (1, 1, -1)),
    (3, -2, 1, -4, 5, -3): ((1, 1, 1), (2, 3, -4), (2, 3, 6)),
    (1, 0, 2, -3, 4, 1): ((0, 1, 0), (0, 2, 3), (1, -1, 0), (5, 1, -6)),
}
FLAT = ((0, 0, 0, 0, 0, 0), (1, -1, 0, 0, 0, 0), (1, 1, 0, 0, 0, 0), (0, 0, 0, 0, 0, 1), (4, 9, 25, 30, 20, 12))
# Of 60 figures, and points whose numbers are nearly so long.
LONG = (10 ** 59 + 7, -(10 ** 60 - 11), 3 * 10 ** 59 + 1)
FAR = ((10 ** 58 + 1, 7, -3 * 10 ** 58 + 1), (10 ** 58, 10 ** 58 + 1, 0), (10 ** 57 + 3, -10 ** 58, 10 ** 58 - 1))


@functools.cache
def primes_of(number):
    """All primes of a number, rising, each as often as it is there."""
    divisor = 2
    while divisor * divisor <= number and number % divisor != 0:
        divisor += 1
    if divisor * divisor > number:
        return (number,) if number > 1 else ()
    return (divisor, *primes_of(number // divisor))


@functools.cache
def squares_by(n):
    """The rests of all squares by n."""
    return frozenset(x * x % n for x in range(n))


def plain_by_trial(a, b, c):
    primes = [p for number in (a, b, c) for p in primes_of(abs(number))]
    return 0 not in (a, b, c) and len(primes) == len(set(primes))


@functools.cache
def squares_by_power(prime, power):
    rests = range(prime ** power)
    units = {x * x % prime ** power for x in rests if x % prime != 0}
    return units, squares_by(prime ** power)


def rests_fit(a, b, c, prime, power):
    """Tries all rests, of which the prime doesn't divide all three, by way of their squares."""
    units, squares = squares_by_power(prime, power)
    for first, second, third in ((a, b, c), (b, c, a), (c, a, b)):
        met = {-third * z % prime ** power for z in squares}
        if any((first * x + second * y) % prime ** power in met for x in units for y in squares):
            return True
    return False


def fits_by_trial(a, b, c, prime):
    """Whether the prime isn't bad for plain a, b, c: by all rests, or by Euler's power where an odd prime is great."""
    if prime < 20:
        return rests_fit(a, b, c, prime, 3 if prime == 2 else 2)
    others = [product for one, product in ((a, -b * c), (b, -c * a), (c, -a * b)) if one % prime == 0]
    return others == [] or pow(others[0], (prime - 1) // 2, prime) == 1


def bad_by_trial(a, b, c):
    primes = sorted({2, *primes_of(abs(a)), *primes_of(abs(b)), *primes_of(abs(c))})
    bad = [prime for prime in primes if not fits_by_trial(a, b, c, prime)]
    return [0, *bad] if (a > 0) == (b > 0) == (c > 0) else bad


def plain_triples(bound):
    numbers = [n for n in range(-bound, bound + 1) if n != 0]
    return [three for three in itertools.product(numbers, repeat=3) if plain_by_trial(*three)]


def worth_by_hand(total, point):
    a, b, c, d, e, f = total
    x, y, z = point
    return a * x * x + b * y * y + c * z * z + d * y * z + e * x * z + f * x * y


def turned_by_hand(table, point):
    return tuple(sum(number * part for number, part in zip(row, point)) for row in table)


def changed_by_hand(total, table):
    """Each of the three numbers of a turned point is a sum of terms; they are multiplied out term by term."""
    made = dict.fromkeys(((0, 0), (1, 1), (2, 2), (1, 2), (0, 2), (0, 1)), 0)
    for coefficient, (one, other) in zip(total, made.copy()):
        for i, j in itertools.product(range(3), repeat=2):
            made[min(i, j), max(i, j)] += coefficient * table[one][i] * table[other][j]
    return tuple(made.values())


def measure_by_hand(table):
    (p, q, r), (s, t, u), (v, w, x) = table
    return p * (t * x - u * w) - q * (s * x - u * v) + r * (s * w - t * v)


def slopes_by_hand(total, point):
    a, b, c, d, e, f = total
    x, y, z = point
    return (2 * a * x + f * y + e * z, f * x + 2 * b * y + d * z, e * x + d * y + 2 * c * z)


def core_by_hand(number):
    """The number without its squares, with its sign."""
    primes = primes_of(abs(number))
    core = math.prod(prime for prime in set(primes) if primes.count(prime) % 2 == 1)
    return core if number > 0 else -core


def lowest_by_hand(point):
    divisor = math.gcd(*point)
    if next(number for number in point if number != 0) < 0:
        divisor = -divisor
    return tuple(number // divisor for number in point)


def is_lowest(point):
    """Whether it is a point in lowest terms."""
    if type(point) is not tuple or [type(number) for number in point] != [int, int, int]:
        return False
    return math.gcd(*point) == 1 and next(number for number in point if number != 0) > 0


def is_table(table):
    """Whether it is a table whose measure isn't 0."""
    if type(table) is not tuple or [type(row) for row in table] != [tuple, tuple, tuple]:
        return False
    if [type(number) for row in table for number in row] != [int] * 9 or {len(row) for row in table} != {3}:
        return False
    return measure_by_hand(table) != 0


def is_vertex(total, point):
    return is_lowest(point) and slopes_by_hand(total, point) == (0, 0, 0)


def size_by_hand(total):
    a, b, c, d, e, f = total
    return 4 * a * b * c + d * e * f - a * d * d - b * e * e - c * f * f


def is_one_signed(total):
    """Whether the worth has one sign at all points, told by the sizes of the sum's upper parts."""
    a, b, c, d, e, f = total
    return 4 * a * b - f * f > 0 and a * size_by_hand(total) > 0


def rests_from(prime):
    """Points by the prime, of all that are multiples of one another one alone."""
    yield from ((1, y, z) for y, z in itertools.product(range(prime), repeat=2))
    yield from ((0, 1, z) for z in range(prime))
    yield (0, 0, 1)


def lead_on(total, prime, point, power, last):
    """Whether rests that differ from the point's by multiples of the power fit by the last power."""
    if worth_by_hand(total, point) % power != 0:
        return False
    if power == last:
        return True
    first = next(place for place in range(3) if point[place] % prime != 0)
    choices = [(number,) if place == first else [number + power * step for step in range(prime)]
               for place, number in enumerate(point)]
    return any(lead_on(total, prime, nearer, power * prime, last) for nearer in itertools.product(*choices))


def fits_by_all_rests(total, prime):
    """A fit by this power leads on to fits by all others: the prime can't divide the slopes more often than twice the
    size."""
    often = primes_of(abs(2 * size_by_hand(total))).count(prime)
    return any(lead_on(total, prime, point, prime, prime ** (2 * often + 1)) for point in rests_from(prime))


def product_of(row, point):
    return sum(number * part for number, part in zip(row, point))


def stretched_by(point, times):
    return tuple(times * number for number in point)


def through(point, line, other):
    """A sum that is 0 at the point: two lines through the point, each times another line."""
    p, q, r = point
    return tuple(one + two for one, two in zip(product_sum((q, -p, 0), line), product_sum((r, 0, -p), other)))


def product_sum(one, other):
    (k, l, m), (n, o, p) = one, other
    return (k * n, l * o, m * p, l * p + m * o, k * p + m * n, k * o + l * n)


def line_through(one, other):
    (x, y, z), (u, v, w) = one, other
    return (y * w - z * v, z * u - x * w, x * v - y * u)


def drawn(seed):
    """Numbers that look as if drawn by lot, always the same ones from a seed; a fixed row of them, without end."""
    while True:
        seed = (seed * 6364136223846793005 + 1442695040888963407) % 2 ** 64
        yield seed >> 33


def drawn_sum(numbers, bound):
    """A sum of one of several kinds: with all six coefficients, with some noughts, with squares alone, of two lines."""
    kind = next(numbers) % 5
    six = tuple(next(numbers) % (2 * bound + 1) - bound for place in range(6))
    if kind == 0:
        return (*six[:3], 0, 0, 0)
    if kind == 1:
        return tuple(number if next(numbers) % 2 else 0 for number in six)
    if kind == 2 and next(numbers) % 3 == 0:
        few = math.isqrt(bound // 2)
        return product_sum(*[tuple(next(numbers) % (2 * few + 1) - few for place in range(3)) for line in range(2)])
    return six
