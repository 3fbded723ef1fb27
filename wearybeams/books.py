"""Books of far beams: what stands of the slips that were heard, however late, in whatever order."""

from wearybeams.kinds import is_number, is_tuple
from wearybeams.nets import Net
from wearybeams.rows import is_row, names_of, pans_of
from wearybeams.stretches import apart, leaned

MOST_ROWS = 120


def _row_of(slip):
    return (slip[0], *slip[2:])


def _is_slip(yard, thing):
    """Whether it, of any kind, is a slip (beam, number, left, right, word)."""
    return is_tuple(thing, 5) and is_number(thing[1], 1, MOST_ROWS) and is_row(yard, _row_of(thing))


def _rising(slip):
    """What slips are put in order by: no name is empty, so nothing comes ahead of names as an empty text."""
    beam, number, left, right, word = slip
    return (beam, number, left or "", right or "", word)


def _all_told(net):
    """From each pair of pans, one ahead of the other, and each beam to its stretches, None where the log is torn."""
    pans, names = pans_of(net.yard()), names_of(net.yard())
    pairs = [(one, other) for at, one in enumerate(pans) for other in pans[at + 1:]]
    if len(net.leans()) == 0:
        return {key: None for key in pairs + names}
    told = {pair: apart(net, *pair) for pair in pairs}
    for beam in names:
        told[beam] = leaned(net, beam)
    return told


def _copied(stretches):
    return None if stretches is None else list(stretches)


class Book:
    """The slips that were heard of some beams, and the log of those rows of them that stand."""

    def __init__(self, yard):
        self._yard = yard
        self._slips = {}
        # from (beam, number) to the slips of them: where two are there, none counts
        self._places = {}
        # what the log tells, as long as it is known
        self._known = None

    def hear(self, slip):
        """What kind of thing came, and the ripple: how what the log tells is changed by it."""
        if not _is_slip(self._yard, slip):
            return ("none", {})
        if slip in self._slips:
            return ("again", {})
        log, elder = self.log(), self._told()
        at_place = self._places.setdefault(slip[:2], [])
        at_place.append(slip)
        self._slips[slip] = True
        kind = "new" if len(at_place) == 1 else "twin"
        if self.log() == log:
            return (kind, {})
        self._known = None
        newer = self._told()
        return (kind, {key: (_copied(elder[key]), _copied(newer[key])) for key in elder if elder[key] != newer[key]})

    def _told(self):
        if self._known is None:
            self._known = _all_told(self.net())
        return self._known

    def _standing(self):
        """From each beam to how many of its rows stand."""
        standing = {}
        for beam in names_of(self._yard):
            many = 0
            while len(self._places.get((beam, many + 1), ())) == 1:
                many += 1
            standing[beam] = many
        return standing

    def log(self):
        """The rows that stand, beam by beam."""
        standing = self._standing()
        return [_row_of(self._places[(beam, at + 1)][0]) for beam in standing for at in range(standing[beam])]

    def waits(self):
        """The rising list of heard slips that do not stand."""
        standing = self._standing()
        return sorted([slip for slip in self._slips if slip[1] > standing[slip[0]]], key=_rising)

    def lacks(self):
        """From each beam of which some slips wait, in order, to the least number that lacks."""
        waiting = {slip[0]: True for slip in self.waits()}
        return {beam: many + 1 for beam, many in self._standing().items() if beam in waiting}

    def net(self):
        """The net of the log."""
        return Net(self._yard, self.log())

    def __len__(self):
        return len(self._slips)
