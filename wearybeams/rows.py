"""Weighings, the rows that beams tell of them, and logs of rows."""

from wearybeams.errors import NoPan, NoRow
from wearybeams.kinds import is_list, is_tuple

WORDS = ("left", "even", "right")


def pans_of(yard):
    """What a pan can hold, in order: nothing, then each thing."""
    return [None] + yard.things()


def names_of(yard):
    """The beams' names, in order."""
    return [name for name, _ in yard.beams()]


def _are_unlike(left, right):
    """Whether the two pans can be weighed against each other: only nothing stands in both."""
    return left is None or left != right


def is_weighing(yard, thing):
    """Whether it, of any kind, is a weighing (beam, left, right) of the yard."""
    if not is_tuple(thing, 3):
        return False
    beam, left, right = thing
    pans = pans_of(yard)
    return beam in names_of(yard) and left in pans and right in pans and _are_unlike(left, right)


def is_row(yard, thing):
    """Whether it, of any kind, is a row (beam, left, right, word) of the yard."""
    return is_tuple(thing, 4) and is_weighing(yard, thing[:3]) and thing[3] in WORDS


def _need_each(yard, things, is_one):
    if not is_list(things):
        raise NoRow(0)
    for at, thing in enumerate(things):
        if not is_one(yard, thing):
            raise NoRow(at)


def need_log(yard, log):
    """None of a log of the yard; NoRow of the first thing that is no row, of 0 where it is no list."""
    _need_each(yard, log, is_row)


def need_weighings(yard, things):
    """None of a list of weighings; NoRow of the first thing that is none, of 0 where it is no list."""
    _need_each(yard, things, is_weighing)


def need_pan(yard, pan):
    """None of a pan of the yard; NoPan of anything else."""
    if pan not in pans_of(yard):
        raise NoPan(pan)


def need_pans(yard, one, other):
    """None of two pans of the yard; NoPan of the first that is none."""
    need_pan(yard, one)
    need_pan(yard, other)


def weighings_by(yard, beam):
    """A new list of all weighings by one beam: by left pans, then right pans, in order."""
    pans = pans_of(yard)
    return [(beam, left, right) for left in pans for right in pans if _are_unlike(left, right)]


def weighings(yard):
    """A new list of all weighings: by beams, then left pans, then right pans, in order."""
    return [weighing for beam in names_of(yard) for weighing in weighings_by(yard, beam)]
