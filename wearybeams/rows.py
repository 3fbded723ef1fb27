"""Weighings, the rows that beams tell of them, and logs of rows."""

from wearybeams.errors import NoRow
from wearybeams.kinds import is_list

WORDS = ("left", "even", "right")


def _pans(yard):
    """What a pan can hold, in order: nothing, then each thing."""
    return [None] + yard.things()


def _names(yard):
    return [name for name, _ in yard.beams()]


def _are_unlike(left, right):
    """Whether the two pans can be weighed against each other: only nothing stands in both."""
    return left is None or left != right


def is_weighing(yard, thing):
    """Whether it, of any kind, is a weighing (beam, left, right) of the yard."""
    if type(thing) is not tuple or len(thing) != 3:
        return False
    beam, left, right = thing
    pans = _pans(yard)
    return beam in _names(yard) and left in pans and right in pans and _are_unlike(left, right)


def is_row(yard, thing):
    """Whether it, of any kind, is a row (beam, left, right, word) of the yard."""
    if type(thing) is not tuple or len(thing) != 4:
        return False
    return is_weighing(yard, thing[:3]) and thing[3] in WORDS


def need_log(yard, log):
    """None of a log of the yard; NoRow of the first thing that is no row, of 0 where it is no list."""
    if not is_list(log):
        raise NoRow(0)
    for at, row in enumerate(log):
        if not is_row(yard, row):
            raise NoRow(at)


def weighings(yard):
    """A new list of all weighings: by beams, then left pans, then right pans, in order."""
    pans = _pans(yard)
    return [(beam, left, right) for beam in _names(yard) for left in pans for right in pans
            if _are_unlike(left, right)]
