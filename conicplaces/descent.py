"""Descent: a point of a pair of numbers, reached by steps to smaller pairs, or a place where the pair has none."""

from conicplaces.errors import NotPlain
from conicplaces.places import places_without_point
from conicplaces.primes import core_of, is_without_squares
from conicplaces.roots import root_or_prime
from conicplaces.sums import lowest_point


def pair_point(a, b):
    if not (is_without_squares(a) and is_without_squares(b)):
        raise NotPlain("a number of the pair is 0 or has a square in it")
    places = places_without_point(a, b, -1)
    if places != []:
        return ("none", places[0])
    walked = walked_down(a, b)
    return ("point", lowest_point(walked[0]), walked[1])


# Told are a point of the pair and the steps. The pair has a point at every place, and so has each pair that a step
# leads to; so it is never (-1, -1), and a has a root by b whenever it is asked for.
def walked_down(a, b):
    if a == 1 or b == 1 or a + b == 0:
        return (point_of_last(a, b), [])
    if abs(a) > abs(b):
        walked = walked_down(b, a)
        return (point_of_turned(walked[0]), [turn()] + walked[1])
    step = step_down(a, b)
    walked = walked_down(a, step[2])
    return (point_of_lower(a, step, walked[0]), [step] + walked[1])


def point_of_last(a, b):
    if a == 1:
        return (1, 1, 0)
    if b == 1:
        return (1, 0, 1)
    return (0, 1, 1)


# A written tuple of texts alone would be one and the same object each time, and the steps are the asker's own.
def turn():
    return tuple(["turn"])


def point_of_turned(point):
    return (point[0], point[2], point[1])


# Here a without its sign is no more than b without its sign, and twice the root isn't either; so c without its sign
# is at most a fourth of that and 1 more, which is less, since b is neither 1 nor -1.
def step_down(a, b):
    root = root_or_prime(a, abs(b))[1]
    core = core_of((root * root - a) // b)
    return ("down", root, core[0], core[1])


def point_of_lower(a, step, point):
    w = step[1]
    return (w * point[0] + a * point[1], point[0] + w * point[1], step[2] * step[3] * point[2])
