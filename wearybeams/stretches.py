"""Stretches: by which numbers pans can be unlike and beams can lean, and what bars all other numbers."""

from wearybeams.covers import are_needed, gathered
from wearybeams.errors import NoAsk
from wearybeams.kinds import is_tuple
from wearybeams.nets import all_leans
from wearybeams.rows import names_of, need_log, need_pans
from wearybeams.torn import are_against, need_worlds, rings_against
from wearybeams.ways import is_ring_by, led_by, steps_of, worth_by
from wearybeams.worlds import shifts


def joined(pairs):
    """The rising list of stretches (first, last), no two of which touch, of all numbers of some pairs."""
    told = []
    for first, last in sorted(pairs):
        if len(told) > 0 and first <= told[-1][1] + 1:
            told[-1] = (told[-1][0], max(last, told[-1][1]))
        else:
            told.append((first, last))
    return told


def span_of(net, one, other, leans):
    """The least and the greatest number by which other can be heavier than one, with leans that some world has."""
    return (-net.far(other, one, leans), net.far(one, other, leans))


def apart(net, one, other):
    """The stretches of all numbers by which other is heavier than one in some world."""
    need_pans(net.yard(), one, other)
    need_worlds(net)
    return joined([span_of(net, one, other, leans) for leans in net.leans()])


def leaned(net, beam):
    """The stretches of all numbers by which the beam leans at first in some world."""
    net.yard().step(beam)
    need_worlds(net)
    at = names_of(net.yard()).index(beam)
    return joined([(leans[at], leans[at]) for leans in net.leans()])


def leans_now(net, beam):
    """The stretches of all numbers by which the beam leans behind the log in some world."""
    told = leaned(net, beam)
    shift = shifts(net.yard(), net.log())[beam]
    return [(first + shift, last + shift) for first, last in told]


def pinned(net, one, other, number, leans):
    """Of the worlds with these leans, in which other is heavier than one by the number, that of the least weights.

    There must be such a world. The number is like two steps more, one to and one fro between the two pans; of these a
    least way from a thing back to nothing takes one at most, as both together are worth 0.
    """
    weights = {}
    for thing in net.yard().things():
        back = min(
            net.far(thing, None, leans),
            net.far(thing, one, leans) + number + net.far(other, None, leans),
            net.far(thing, other, leans) - number + net.far(one, None, leans))
        weights[thing] = -back
    return (weights, dict(zip(names_of(net.yard()), leans)))


def apart_by(net, one, other, number):
    """The world of the least leans, then weights, in which other is heavier than one by the number; None without."""
    need_pans(net.yard(), one, other)
    for leans in net.leans():
        least, most = span_of(net, one, other, leans)
        if least <= number <= most:
            return pinned(net, one, other, number, leans)
    return None


def _need_rising(first, last):
    if first is not None and last is not None and first > last:
        raise NoAsk("the first number is above the last one")


def _bounds(first, last):
    """From each kind of a bar's pairs to what it has to be worth less than: None where that kind bars nothing."""
    return {"ring": 0, "way": first, "back": None if last is None else -last}


def bar(net, one, other, first, last):
    """A bar of the numbers from first to last; None where other can be heavier than one by one of them."""
    yard = net.yard()
    need_pans(yard, one, other)
    _need_rising(first, last)
    steps = steps_of(yard, net.log())
    bounds = _bounds(first, last)

    def hold(kind, way):
        return ((kind, way), worth_by(yard, steps, way), bounds[kind])

    def barring(leans):
        ring = net.ring(leans)
        if ring is not None:
            return hold("ring", ring)
        least, most = span_of(net, one, other, leans)
        if first is not None and most < first:
            return hold("way", net.way(one, other, leans))
        if last is not None and least > last:
            return hold("back", net.way(other, one, leans))
        return None

    holds = gathered(all_leans(yard), barring)
    return None if holds is None else tuple([pair for pair, _, _ in holds])


def _bars(steps, one, other, bounds, thing):
    """Whether it, of any kind, is a pair of a kind that can bar and of a ring or way that is of this kind."""
    if not is_tuple(thing, 2) or thing[0] not in ("ring", "way", "back"):
        return False
    kind, way = thing
    if kind == "ring":
        return is_ring_by(steps, way)
    start, end = (one, other) if kind == "way" else (other, one)
    return bounds[kind] is not None and led_by(steps, start, way) == [end]


def is_bar(yard, log, one, other, first, last, thing):
    """Whether it, of any kind, is a bar of the numbers from first to last."""
    steps = steps_of(yard, log)
    need_pans(yard, one, other)
    _need_rising(first, last)
    bounds = _bounds(first, last)
    if type(thing) is not tuple or not all([_bars(steps, one, other, bounds, pair) for pair in thing]):
        return False
    holds = [(kind, worth_by(yard, steps, way), bounds[kind]) for kind, way in thing]
    return are_needed(holds, all_leans(yard))


def _leaning(yard, beam, first, last):
    """All tuples of leans in which the beam's is a number from first to last."""
    at = names_of(yard).index(beam)
    return [leans for leans in all_leans(yard)
            if (first is None or first <= leans[at]) and (last is None or leans[at] <= last)]


def lean_bar(net, beam, first, last):
    """Rings that bar all tuples of leans with the beam's from first to last; None where a world has such a one."""
    yard = net.yard()
    yard.step(beam)
    _need_rising(first, last)
    return rings_against(net, _leaning(yard, beam, first, last))


def is_lean_bar(yard, log, beam, first, last, thing):
    """Whether it, of any kind, is what lean_bar may tell."""
    need_log(yard, log)
    yard.step(beam)
    _need_rising(first, last)
    return are_against(yard, log, _leaning(yard, beam, first, last), thing)
