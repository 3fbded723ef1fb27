"""Words that can come next, words that are sure to, and beams steered by these."""

from wearybeams.errors import NoAsk
from wearybeams.kinds import is_number
from wearybeams.nets import Net
from wearybeams.rows import WORDS, names_of, need_weighings, weighings_by
from wearybeams.stretches import span_of
from wearybeams.torn import need_worlds, some_world, torn
from wearybeams.worlds import shifts, turn, word_of

FEW = 12
MOST_FEW = 40
FARTHEST = 1000000


def _need_weighing(net, weighing):
    need_weighings(net.yard(), [weighing])


def _told_next(net, row):
    """What next_words tells of the word of a row."""
    behind = Net(net.yard(), [*net.log(), row])
    tear = torn(behind)
    return ("can", some_world(behind)) if tear is None else ("not", tear)


def next_words(net, weighing):
    """From each word to ("can", a world with that row behind) or ("not", a tear of the log with it)."""
    _need_weighing(net, weighing)
    need_worlds(net)
    return {word: _told_next(net, (*weighing, word)) for word in WORDS}


def _reach(net, weighing):
    """The least and the greatest that left pan less right one and the beam's first lean come to in any world."""
    beam, left, right = weighing
    at = names_of(net.yard()).index(beam)
    least, most = [], []
    for leans in net.leans():
        low, high = span_of(net, right, left, leans)
        least.append(low + leans[at])
        most.append(high + leans[at])
    return min(least), max(most)


def _sure_word(reach, shift):
    """The one word of all that comes from the least of a reach to the greatest; None where there are several."""
    least, most = reach
    if least < most and least + shift <= 0 <= most + shift:
        return None
    return word_of(least + shift)


def sure(net, weighing):
    """The one word of a weighing that can come; None where several can."""
    _need_weighing(net, weighing)
    need_worlds(net)
    return _sure_word(_reach(net, weighing), shifts(net.yard(), net.log())[weighing[0]])


def sure_run(net, weighings):
    """How many of a list of weighings, from the first on, have a word that is sure behind those ahead."""
    yard = net.yard()
    need_weighings(yard, weighings)
    need_worlds(net)
    # rows of sure words leave all worlds as they are, so the leans alone move
    shift = shifts(yard, net.log())
    for at, weighing in enumerate(weighings):
        beam = weighing[0]
        word = _sure_word(_reach(net, weighing), shift[beam])
        if word is None:
            return at
        shift[beam] += turn(yard, beam, word)
    return len(weighings)


def _need_steered(yard, beam, shift, most):
    yard.step(beam)
    if not is_number(shift, -FARTHEST, FARTHEST):
        raise NoAsk("a shift is a number from -10 ** 6 to 10 ** 6")
    if not is_number(most, 0, MOST_FEW):
        raise NoAsk("at most how many weighings is a number from 0 to 40")


def _first_sure(reaches, shift, word):
    """The first weighing that is sure to tell the word; None where none is."""
    for weighing, reach in reaches:
        if _sure_word(reach, shift) == word:
            return weighing
    return None


def steered(net, beam, shift, *, most=FEW):
    """As few weighings of sure words by the beam as bring it to a shift; None where no so many do."""
    yard = net.yard()
    _need_steered(yard, beam, shift, most)
    need_worlds(net)
    now = shifts(yard, net.log())[beam]
    step = yard.step(beam)
    # each sure word moves the shift by a step or not at all, so the fewest all move it straight on
    word = "right" if (shift - now > 0) == (step > 0) else "left"
    moves, rest = divmod(abs(shift - now), abs(step))
    if rest != 0 or moves > most:
        return None
    reaches = [(weighing, _reach(net, weighing)) for weighing in weighings_by(yard, beam)]
    told = []
    for _ in range(moves):
        weighing = _first_sure(reaches, now, word)
        if weighing is None:
            return None
        told.append(weighing)
        now += turn(yard, beam, word)
    return told
