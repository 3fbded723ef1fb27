"""Plans by which an ask is told, whatever the words, and foils of all plans that are no deeper than so much."""

from wearybeams.errors import NoAsk
from wearybeams.kinds import is_number, is_tuple
from wearybeams.nets import MOST_WORLDS, Net
from wearybeams.rows import WORDS, is_weighing, names_of, pans_of, weighings
from wearybeams.stretches import apart, leaned
from wearybeams.torn import need_worlds
from wearybeams.worlds import first_sums, heavier, is_world, shifts, turn, word_of

DEEPEST = 3


def _is_ask(yard, thing):
    """Whether it, of any kind, is an ask."""
    if is_tuple(thing, 2):
        kind, name = thing
        return (kind == "weight" and name in yard.things()) or (kind == "lean" and name in names_of(yard))
    if not is_tuple(thing, 3):
        return False
    kind, one, other = thing
    pans = pans_of(yard)
    return kind == "heavier" and one in pans and other in pans and one != other


def _need_ask(yard, ask):
    if not _is_ask(yard, ask):
        raise NoAsk("this is no ask of the yard")


def _need_deep(most):
    if not is_number(most, 0, DEEPEST):
        raise NoAsk("at most how deep is a number from 0 to 3")


def _comes_to(ask, world):
    """What the ask comes to in a world; of what is heavier the sign, by a word."""
    if ask[0] == "heavier":
        return word_of(heavier(world, ask[2], ask[1]))
    weights, leans = world
    return weights[ask[1]] if ask[0] == "weight" else leans[ask[1]]


class Search:
    """All worlds of a log, by their numbers from 0: what an ask comes to in each, and what each weighing does."""

    def __init__(self, net, ask):
        self._yard = net.yard()
        self._worlds = net.worlds(MOST_WORLDS)
        self._answers = [_comes_to(ask, world) for world in self._worlds]
        listed = weighings(self._yard)
        sums = [first_sums(world, listed) for world in self._worlds]
        self._sums = {weighing: [row[at] for row in sums] for at, weighing in enumerate(listed)}

    def whole(self):
        """The numbers of all worlds."""
        return list(range(len(self._worlds)))

    def _copied(self, at):
        """A world, new each time, so that a foil is its asker's own throughout."""
        weights, leans = self._worlds[at]
        return (dict(weights), dict(leans))

    def paper(self, left, shift, most):
        """Of some worlds, behind such shifts: ("plan", one at most so deep), or ("foil", foil) where there is none."""
        first = left[0]
        unlike = [at for at in left if self._answers[at] != self._answers[first]]
        if len(unlike) == 0:
            return ("plan", None)
        if most == 0:
            return ("foil", (self._copied(first), self._copied(unlike[0])))
        foil = {}
        for weighing in self._sums:
            kind, found = self._behind(weighing, left, shift, most)
            if kind == "plan":
                return ("plan", (weighing, found))
            foil[weighing] = found
        return ("foil", foil)

    def _behind(self, weighing, left, shift, most):
        """("plan", plans by words) behind a weighing, each a step less deep, or ("foil", (word, foil)) of one word."""
        beam = weighing[0]
        parts = {word: [] for word in WORDS}
        for at in left:
            parts[word_of(self._sums[weighing][at] + shift[beam])].append(at)
        plans = {}
        for word in WORDS:
            if len(parts[word]) > 0:
                moved = {**shift, beam: shift[beam] + turn(self._yard, beam, word)}
                kind, found = self.paper(parts[word], moved, most - 1)
                if kind == "foil":
                    return ("foil", (word, found))
                plans[word] = found
        return ("plan", plans)


def plan(net, ask, most):
    """("plan", one of the least depth), or ("foil", foil) where none is at most so deep."""
    yard = net.yard()
    _need_ask(yard, ask)
    _need_deep(most)
    need_worlds(net)
    search = Search(net, ask)
    shift = shifts(yard, net.log())
    for deep in range(most):
        told = search.paper(search.whole(), shift, deep)
        if told[0] == "plan":
            return told
    return search.paper(search.whole(), shift, most)


def _is_told(net, ask):
    """Whether the ask comes to the same in all worlds, of which there is one."""
    if ask[0] == "lean":
        stretches = leaned(net, ask[1])
    elif ask[0] == "weight":
        stretches = apart(net, None, ask[1])
    else:
        stretches = apart(net, ask[2], ask[1])
    least, most = stretches[0][0], stretches[-1][1]
    return word_of(least) == word_of(most) if ask[0] == "heavier" else least == most


def _nets_behind(net, weighing):
    """From each word of a weighing that can come to the net of the log with that row behind."""
    nets = {word: Net(net.yard(), [*net.log(), (*weighing, word)]) for word in WORDS}
    return {word: behind for word, behind in nets.items() if len(behind.leans()) > 0}


def _plans(net, ask, thing):
    """As is_plan, where there is a world."""
    if _is_told(net, ask):
        return thing is None
    if not is_tuple(thing, 2):
        return False
    weighing, plans = thing
    if not is_weighing(net.yard(), weighing) or type(plans) is not dict:
        return False
    nets = _nets_behind(net, weighing)
    return list(plans) == list(nets) and all([_plans(nets[word], ask, plans[word]) for word in nets])


def is_plan(net, ask, thing):
    """Whether it, of any kind, is a plan of the ask."""
    _need_ask(net.yard(), ask)
    need_worlds(net)
    return _plans(net, ask, thing)


def _parts(yard, log, ask, thing):
    """Whether it is a pair of worlds of the log in which the ask comes to unlike things."""
    if not is_tuple(thing, 2) or not all([is_world(yard, log, world) for world in thing]):
        return False
    return _comes_to(ask, thing[0]) != _comes_to(ask, thing[1])


def _foils(yard, log, ask, most, thing):
    """As is_foil, of a log."""
    if most == 0:
        return _parts(yard, log, ask, thing)
    if type(thing) is not dict or list(thing) != weighings(yard):
        return False
    for weighing, part in thing.items():
        if not is_tuple(part, 2) or part[0] not in WORDS:
            return False
        if not _foils(yard, [*log, (*weighing, part[0])], ask, most - 1, part[1]):
            return False
    return True


def is_foil(net, ask, most, thing):
    """Whether it, of any kind, is a foil of all plans of the ask that are at most so deep."""
    _need_ask(net.yard(), ask)
    _need_deep(most)
    need_worlds(net)
    return _foils(net.yard(), net.log(), ask, most, thing)
