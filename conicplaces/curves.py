"""Curves of any sums: a point, or a place at which there is none."""

from conicplaces.errors import BadPlace, Flat
from conicplaces.places import bad_places
from conicplaces.plains import plain_of
from conicplaces.smalls import small_point
from conicplaces.sums import lowest_point, turned_by


# Where all slopes are 0 the worth is 0 as well, so a vertex is a point of the curve.
def point_or_place(Q):
    try:
        told = plain_of(Q)
    except Flat as refusal:
        return ("point", refusal.vertex)
    plain = told[2]
    try:
        point = small_point(plain[0], plain[1], plain[2])
    except BadPlace as refusal:
        return ("place", refusal.place)
    return ("point", lowest_point(turned_by(told[0], point)))


def bad_of(Q):
    plain = plain_of(Q)[2]
    return bad_places(plain[0], plain[1], plain[2])
