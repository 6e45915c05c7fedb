"""What several tests need to try things out by themselves, without the program."""
import functools

# Of 300 figures: a power of ten is prime to every number that neither 2 nor 5 divides.
TEN = 10 ** 299
ODD = 3 ** 628


@functools.cache
def primes_of(number):
    """All primes of a number, rising, each as often as it is there."""
    divisor = 2
    while divisor * divisor <= number and number % divisor != 0:
        divisor += 1
    if divisor * divisor > number:
        return (number,) if number > 1 else ()
    return (divisor, *primes_of(number // divisor))


@functools.cache
def squares_by(n):
    """The rests of all squares by n."""
    return frozenset(x * x % n for x in range(n))
