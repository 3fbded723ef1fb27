"""Holds and the tuples of first leans that break them.

A hold is (what, worth, bound): in each world what is worth no less than the bound, so no world has leans by which it
is worth less. These leans break the hold.
"""

from wearybeams.ways import worth_at


def _breaking(holds, leans):
    """The numbers of the holds that a tuple of leans breaks."""
    return [at for at, (_, worth, bound) in enumerate(holds) if worth_at(worth, leans) < bound]


def _thinned(holds, tuples):
    """The holds, but for those that can be spared: each tuple still breaks one."""
    breaking = [_breaking(holds, leans) for leans in tuples]
    kept = []
    for at, hold in enumerate(holds):
        without = [[one for one in broken if one != at] for broken in breaking]
        if all([len(broken) > 0 for broken in without]):
            breaking = without
        else:
            kept.append(hold)
    return kept


def gathered(tuples, found):
    """Holds, none of which can be spared, such that each of the tuples of leans breaks one.

    found tells, of a tuple of leans, a hold that it breaks; where it tells None of one, so does this. As the holds
    are half spaces, and the tuples all whole points of a box, none to spare are at most 2 ** k, of k beams.
    """
    holds = []
    for leans in tuples:
        if len(_breaking(holds, leans)) == 0:
            hold = found(leans)
            if hold is None:
                return None
            holds.append(hold)
    return _thinned(holds, tuples)


def are_needed(holds, tuples):
    """Whether each of the tuples of leans breaks one of the holds, and each hold alone is broken by some tuple."""
    alone = {}
    for leans in tuples:
        broken = _breaking(holds, leans)
        if len(broken) == 0:
            return False
        if len(broken) == 1:
            alone[broken[0]] = True
    return len(alone) == len(holds)
