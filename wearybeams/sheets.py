"""Sheets: all that a log lets two pans be apart by, with worlds that show it and bars of all the rest."""

from wearybeams.kinds import is_tuple
from wearybeams.rows import need_log, need_pans
from wearybeams.stretches import apart, bar, is_bar, joined, pinned, span_of
from wearybeams.worlds import heavier, is_world


def _gaps(stretches):
    """The pairs (first, last) of numbers in no stretch, None for without end: ahead, between and behind."""
    starts = [None] + [last + 1 for _, last in stretches]
    ends = [first - 1 for first, _ in stretches] + [None]
    return list(zip(starts, ends))


def _spanning(reached, first, last):
    """Of the spans (most, least, leans) so many that each number from first to last stands in one."""
    told = []
    while first <= last:
        told.append(max([span for span in reached if span[1] <= first]))
        first = told[-1][0] + 1
    return told


def _spans(net, one, other, first, last):
    """The spans of a stretch from first to last, as pairs of worlds."""
    reached = []
    for leans in net.leans():
        least, most = span_of(net, one, other, leans)
        reached.append((most, least, leans))
    return tuple([
        (pinned(net, one, other, least, leans), pinned(net, one, other, most, leans))
        for most, least, leans in _spanning(reached, first, last)])


def sheet(net, one, other):
    """A sheet of two pans: (stretches, spans, bars)."""
    stretches = tuple(apart(net, one, other))
    spans = [_spans(net, one, other, first, last) for first, last in stretches]
    bars = [bar(net, one, other, first, last) for first, last in _gaps(stretches)]
    return (stretches, tuple(spans), tuple(bars))


def _is_stretch(thing):
    if not is_tuple(thing, 2):
        return False
    first, last = thing
    return type(first) is int and type(last) is int and first <= last


def _are_stretches(thing):
    """Whether it is a tuple of one stretch or more, rising, no two of which touch."""
    if type(thing) is not tuple or len(thing) == 0 or not all([_is_stretch(pair) for pair in thing]):
        return False
    return all([ahead[1] + 1 < behind[0] for ahead, behind in zip(thing, thing[1:])])


def _is_span(yard, log, one, other, thing):
    if not is_tuple(thing, 2) or not all([is_world(yard, log, world) for world in thing]):
        return False
    low, high = thing
    return low[1] == high[1] and heavier(low, one, other) <= heavier(high, one, other)


def _is_spanned(yard, log, one, other, stretch, thing):
    """Whether it is a tuple of spans that come to all numbers of the stretch, and to no others."""
    if type(thing) is not tuple or not all([_is_span(yard, log, one, other, span) for span in thing]):
        return False
    return joined([(heavier(low, one, other), heavier(high, one, other)) for low, high in thing]) == [stretch]


def is_sheet(yard, log, one, other, thing):
    """Whether it, of any kind, is a sheet of two pans."""
    need_log(yard, log)
    need_pans(yard, one, other)
    if not is_tuple(thing, 3) or not _are_stretches(thing[0]):
        return False
    stretches, spans, bars = thing
    if not is_tuple(spans, len(stretches)) or not is_tuple(bars, len(stretches) + 1):
        return False
    if not all([_is_spanned(yard, log, one, other, stretch, told) for stretch, told in zip(stretches, spans)]):
        return False
    gaps = _gaps(stretches)
    return all([is_bar(yard, log, one, other, first, last, told) for (first, last), told in zip(gaps, bars)])
