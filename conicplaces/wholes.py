"""Whole numbers: what two of them share, and the root of one."""

from conicplaces.errors import NoNumber


# A row is (n, s, t) with s times one and t times other coming to n. Taking a multiple of one row from
# another keeps that, so the row in which the dividing ends tells the shares of the greatest divisor.
def shares_of(one, other):
    upper = (one, 1, 0)
    lower = (other, 0, 1)
    while lower[0] != 0:
        below = row_less(upper, lower, upper[0] // lower[0])
        upper = lower
        lower = below
    if upper[0] < 0:
        return (-upper[0], -upper[1], -upper[2])
    return upper


def row_less(row, taken, times):
    return (row[0] - times * taken[0], row[1] - times * taken[1], row[2] - times * taken[2])


# Each step stays at or above the root, since the mean of a guess and number // guess, rounded down, is
# never below it; and each step falls while the guess is above. So the first guess not above is the root.
def root_of(number):
    if number < 0:
        raise NoNumber("a number below 0 has no root")
    guess = above_root(number)
    while guess * guess > number:
        guess = (guess + number // guess) // 2
    return guess


def above_root(number):
    guess = 1
    while guess * guess <= number:
        guess = 2 * guess
    return guess
