"""Curves that are alike: tables that turn one with points into another, or places that part the two."""

from conicplaces.curves import bad_of, point_or_place
from conicplaces.pencils import led_to, point_on
from conicplaces.plains import TURNS
from conicplaces.sums import added, changed_by, crossing_of, put_together, refuse_flat, stretched, turned_over


# The point that m and n tell is, ahead of its lowest terms, mm times the first column here, mn times the second and
# nn times the third. So the changed sum is 0 at each (mm, mn, nn), and such a sum is a multiple of xz - yy. The points
# told are on no one line, so the measure isn't 0, and neither is the multiple.
def standard_of(Q, P):
    refuse_flat(Q)
    start = point_on(Q, P)
    first = led_to(Q, start, 1, 0)
    third = led_to(Q, start, 0, 1)
    second = added(led_to(Q, start, 1, 1), stretched(added(first, third), -1))
    table = turned_over((first, second, third))
    return (table, changed_by(Q, table)[4])


def alike_by(one, other):
    places = bad_of(one)
    unlike = sorted(set(places) ^ set(bad_of(other)))
    if unlike != []:
        return ("place", unlike[0])
    if places != []:
        return ("alike", places)
    table = put_together(standard_table(one), turned_back(standard_table(other)))
    return ("table", table, scale_between(changed_by(one, table), other))


def standard_table(Q):
    return standard_of(Q, point_or_place(Q)[1])[0]


# Put together with the table it turns each point to a multiple of itself.
def turned_back(table):
    return turned_over([crossing_of(table[second], table[third]) for first, second, third in TURNS])


# The two sums are multiples of one sum, so one coefficient of each that isn't 0 tells how they compare.
def scale_between(changed, other):
    return [(top, bottom) for top, bottom in zip(changed, other) if bottom != 0][0]
