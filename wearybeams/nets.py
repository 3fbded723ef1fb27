"""Nets: by each tuple of first leans, what a log lets the weights be."""

from wearybeams.errors import NoAsk, TooMany
from wearybeams.grids import NONE, closed, fewest, fewest_ring, first_fillings
from wearybeams.kinds import is_number, is_tuple
from wearybeams.rows import names_of, need_pans, pans_of
from wearybeams.ways import steps_of, worth_at

MOST_WORLDS = 3000


def all_leans(yard):
    """The list of all tuples of first leans, rising."""
    lean = yard.lean()
    tuples = [()]
    for _ in yard.beams():
        tuples = [(*leans, last) for leans in tuples for last in range(-lean, lean + 1)]
    return tuples


def _tightest(steps):
    """From (the pan left, the pan led to, times) to the least number of such a step, with the first such step."""
    told = {}
    for step, (start, end, (number, times)) in steps.items():
        key = (start, end, times)
        if key not in told or number < told[key][0]:
            told[key] = (number, step)
    return told


class Net:
    """A log of a yard, as ways and worlds by each tuple of first leans."""

    def __init__(self, yard, log):
        self._tight = _tightest(steps_of(yard, log))
        self._yard = yard
        self._log = tuple(log)
        self._pans = pans_of(yard)
        # what was worked out for a tuple of leans: its straight steps, their worths, and the closed worths
        self._known = {}

    def yard(self):
        """The yard."""
        return self._yard

    def log(self):
        """A new list of the rows."""
        return list(self._log)

    def _straight(self, leans):
        """A grid of the least worths of single steps, and one of these steps, None where there is none."""
        worths = [[NONE for _ in self._pans] for _ in self._pans]
        steps = [[None for _ in self._pans] for _ in self._pans]
        place = {pan: at for at, pan in enumerate(self._pans)}
        turns = {times: worth_at((0, times), leans) for _, _, times in self._tight}
        for (start, end, times), (number, step) in self._tight.items():
            worth = number + turns[times]
            if worth < worths[place[start]][place[end]]:
                worths[place[start]][place[end]] = worth
                steps[place[start]][place[end]] = step
        return worths, steps

    def _grids(self, leans):
        """Straight worths, straight steps, and the closed worths, None where no world has these leans."""
        if leans not in self._known:
            worths, steps = self._straight(leans)
            self._known[leans] = (worths, steps, closed(worths))
        return self._known[leans]

    def _need_leans(self, leans):
        lean = self._yard.lean()
        if not is_tuple(leans, len(self._yard.beams())) or not all([is_number(one, -lean, lean) for one in leans]):
            raise NoAsk("this is no tuple of first leans of the yard")

    def _places(self, one, other):
        need_pans(self._yard, one, other)
        return self._pans.index(one), self._pans.index(other)

    def _world(self, weights, leans):
        """The world of a row of numbers, nothing's ahead of the things', and a tuple of leans."""
        return (dict(zip(self._yard.things(), weights[1:])), dict(zip(names_of(self._yard), leans)))

    def ring(self, leans):
        """None where a world has these leans, else a ring of the fewest steps worth less than 0 by them."""
        self._need_leans(leans)
        worths, steps, far = self._grids(leans)
        if far is not None:
            return None
        places = fewest_ring(worths)
        return tuple([steps[at][to] for at, to in zip(places, places[1:])])

    def low(self, leans):
        """Of the worlds with these leans the one in which each thing weighs least; None where there are none."""
        self._need_leans(leans)
        far = self._grids(leans)[2]
        return None if far is None else self._world([-row[0] for row in far], leans)

    def high(self, leans):
        """Of the worlds with these leans the one in which each thing weighs most; None where there are none."""
        self._need_leans(leans)
        far = self._grids(leans)[2]
        return None if far is None else self._world(far[0], leans)

    def far(self, one, other, leans):
        """By how much other can be heavier than one, with these leans, at most; None where no world has them."""
        at, to = self._places(one, other)
        self._need_leans(leans)
        far = self._grids(leans)[2]
        return None if far is None else far[at][to]

    def way(self, one, other, leans):
        """A way from one to other of the fewest steps worth what far tells; None where no world has these leans."""
        at, to = self._places(one, other)
        self._need_leans(leans)
        worths, steps, far = self._grids(leans)
        if far is None:
            return None
        places = fewest(worths, at, to, far[at][to])
        return tuple([steps[ahead][behind] for ahead, behind in zip(places, places[1:])])

    def leans(self):
        """The list of all tuples of first leans that some world has, rising."""
        return [leans for leans in all_leans(self._yard) if self._grids(leans)[2] is not None]

    def worlds(self, most):
        """The list of all worlds, rising by leans, then by weights in the order of things; TooMany of more."""
        if not is_number(most, 1, MOST_WORLDS):
            raise NoAsk("at most how many worlds is a number from 1 to 3000")
        told = []
        for leans in self.leans():
            fillings = first_fillings(self._grids(leans)[2], most + 1 - len(told))
            told.extend([self._world(weights, leans) for weights in fillings])
            if len(told) > most:
                raise TooMany(most)
        return told
