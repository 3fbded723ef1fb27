"""Levellings and ties: which leans weighings can tell, and along what worlds can be moved unseen."""

from math import gcd, lcm

from wearybeams.kinds import is_tuple
from wearybeams.rows import names_of, need_weighings
from wearybeams.worlds import is_some_world, need_some_world


def _columns(yard, beam):
    """The things, then the beams, as pairs (kind, name), the beam that is asked for last."""
    others = [name for name in names_of(yard) if name != beam]
    return [("thing", name) for name in yard.things()] + [("beam", name) for name in [*others, beam]]


def _row_of(columns, weighing):
    """By columns: left pan less right pan and the beam weighed at."""
    beam, left, right = weighing
    more, less = [("thing", left), ("beam", beam)], ("thing", right)
    return [1 if column in more else -1 if column == less else 0 for column in columns]


def _without(row, other, place):
    """The row, some times, and the other, some times, that have 0 in a place together; as small as can be."""
    told = [one * other[place] - two * row[place] for one, two in zip(row, other)]
    common = 0
    for number in told:
        common = gcd(common, number)
    return [number // common for number in told]


def _first_place(row, width):
    """The first place that is not 0; None where all are 0."""
    for place in range(width):
        if row[place] != 0:
            return place
    return None


def _reduced(columns, weighings):
    """Rows put together of the weighings, of which all are put together: a dict from a place to each.

    The place is the first that is not 0 in its row, and is 0 in all other rows. Behind its columns each row has how
    many times each weighing stands in it.
    """
    rows = {}
    for at, weighing in enumerate(weighings):
        row = _row_of(columns, weighing) + [1 if one == at else 0 for one in range(len(weighings))]
        for place, other in rows.items():
            if row[place] != 0:
                row = _without(row, other, place)
        new = _first_place(row, len(columns))
        if new is not None:
            rows = {place: _without(other, row, new) if other[new] != 0 else other for place, other in rows.items()}
            rows[new] = row
    return rows


def _tie_of(row, width):
    """The tie and its times that a row tells which has 0 in all columns but the last."""
    sign = 1 if row[width - 1] > 0 else -1
    tie = {at: sign * times for at, times in enumerate(row[width:]) if times != 0}
    return ("tie", tie, sign * row[width - 1])


def _levelling_of(yard, columns, rows):
    """The levelling in which the last column's number is above 0, where no row begins there, and other free ones' 0."""
    last = len(columns) - 1
    scale = 1
    for place, row in rows.items():
        scale = lcm(scale, row[place] // gcd(row[place], row[last]))
    numbers = {column: 0 for column in columns}
    numbers[columns[last]] = scale
    for place, row in rows.items():
        numbers[columns[place]] = -row[last] * scale // row[place]
    return (
        {name: numbers[("thing", name)] for name in yard.things()},
        {name: numbers[("beam", name)] for name in names_of(yard)})


def _need_tied(yard, weighings, beam):
    need_weighings(yard, weighings)
    yard.step(beam)


def tied(yard, weighings, beam):
    """("tie", a tie, its times) of some weighings and a beam, or ("level", a levelling)."""
    _need_tied(yard, weighings, beam)
    columns = _columns(yard, beam)
    rows = _reduced(columns, weighings)
    last = len(columns) - 1
    if last in rows:
        return _tie_of(rows[last], len(columns))
    return ("level", _levelling_of(yard, columns, rows))


def _are_times(thing, many):
    """Whether it is a dict from numbers below many, rising, to whole numbers, none 0."""
    if type(thing) is not dict or not all([type(at) is int and 0 <= at < many for at in thing]):
        return False
    return list(thing) == sorted(thing) and all([type(times) is int and times != 0 for times in thing.values()])


def is_tie(yard, weighings, beam, thing):
    """Whether it, of any kind, is a pair of a tie of the weighings and the beam, and its times."""
    _need_tied(yard, weighings, beam)
    if not is_tuple(thing, 2) or not _are_times(thing[0], len(weighings)):
        return False
    tie, times = thing
    if type(times) is not int or times < 1:
        return False
    columns = _columns(yard, beam)
    totals = [0 for _ in columns]
    for at, many in tie.items():
        totals = [total + many * one for total, one in zip(totals, _row_of(columns, weighings[at]))]
    return totals == [0 for _ in columns[1:]] + [times]


def _are_whole(thing, names):
    """Whether it is a dict from just these names, in this order, to whole numbers."""
    return type(thing) is dict and list(thing) == names and all([type(one) is int for one in thing.values()])


def is_levelling(yard, weighings, beam, thing):
    """Whether it, of any kind, is a levelling of the weighings and the beam."""
    _need_tied(yard, weighings, beam)
    if not is_tuple(thing, 2):
        return False
    things, beams = thing
    if not _are_whole(things, yard.things()) or not _are_whole(beams, names_of(yard)):
        return False
    pans = {None: 0, **things}
    return beams[beam] != 0 and all([pans[left] - pans[right] + beams[by] == 0 for by, left, right in weighings])


def moved(yard, world, levelling, times):
    """The world moved so many times along a levelling; None where that is no world."""
    need_some_world(yard, world)
    weights, leans = world
    things, beams = levelling
    told = (
        {name: weights[name] + times * things[name] for name in yard.things()},
        {name: leans[name] + times * beams[name] for name in names_of(yard)})
    return told if is_some_world(yard, told) else None


def loose(yard, weighings):
    """How many pairs of dicts that come to 0 at each weighing there are at most, none made of the others."""
    need_weighings(yard, weighings)
    columns = _columns(yard, names_of(yard)[-1])
    return len(columns) - len(_reduced(columns, weighings))
