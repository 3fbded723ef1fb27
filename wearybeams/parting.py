"""Worlds that no weighing ever parts, and the fewest weighings that part all others.

Steps are above 0 here, so a weighing that is done again and again comes nearer to even, step by step. All other
weighings by its beam move its sum by whole steps, too. Its sums in two worlds that give the same words stay as far
apart as they are, so what parts these worlds soonest is one weighing alone, done so often that their words are unlike.
"""

from wearybeams.errors import NoAsk, NoStep
from wearybeams.nets import MOST_WORLDS
from wearybeams.rows import names_of, need_log, need_weighings, weighings_by
from wearybeams.worlds import first_sums, is_world, need_some_world, shifts, turn, word_of


def need_steps(yard):
    """None where no step is below 0; NoStep of the first beam with such a step."""
    for beam, step in yard.beams():
        if step < 0:
            raise NoStep(beam)


def _rest(total, step):
    """As rests, of a weighing that comes to a sum."""
    many = -(-abs(total) // step)
    return (many, "even" if many * step == abs(total) else "fro")


def _until_rest(total, step):
    """The words of a weighing that comes to a sum, done until it rests."""
    many, kind = _rest(total, step)
    return [word_of(total)] * many + ["even" if kind == "even" else word_of(-total)]


def rests(yard, world, weighing):
    """How many words come before a weighing, done again and again, is even, or goes to and fro, and which it is."""
    need_steps(yard)
    need_some_world(yard, world)
    need_weighings(yard, [weighing])
    return _rest(first_sums(world, [weighing])[0], yard.step(weighing[0]))


def rested(yard, world, weighings):
    """The log of a list of weighings, each done until its word is even or unlike its own first one."""
    need_steps(yard)
    need_some_world(yard, world)
    need_weighings(yard, weighings)
    shift = {beam: 0 for beam in names_of(yard)}
    log = []
    for weighing, total in zip(weighings, first_sums(world, weighings)):
        beam = weighing[0]
        for word in _until_rest(total + shift[beam], yard.step(beam)):
            log.append((*weighing, word))
            shift[beam] += turn(yard, beam, word)
    return log


def _times(one, other, step):
    """How often a weighing of such sums in two worlds is done until its words are unlike; None where they never are."""
    if word_of(one) != word_of(other):
        return 1
    first, second = _rest(one, step), _rest(other, step)
    return None if first == second else min(first[0], second[0]) + 1


def parted(yard, one, other, shift):
    """As parting, behind rows behind which each beam has such a shift."""
    told = None
    for beam, step in yard.beams():
        listed = weighings_by(yard, beam)
        for weighing, first, second in zip(listed, first_sums(one, listed), first_sums(other, listed)):
            times = _times(first + shift[beam], second + shift[beam], step)
            if times is not None and (told is None or times < len(told)):
                told = [weighing] * times
    return told


def alike(yard, one, other):
    """Whether two worlds tell the same words of every row of weighings."""
    return parting(yard, one, other) is None


def parting(yard, one, other, *, log=()):
    """As few weighings as can be that part two worlds behind a log of both; None where they are alike for ever."""
    need_steps(yard)
    need_some_world(yard, one)
    need_some_world(yard, other)
    need_log(yard, log)
    if not is_world(yard, log, one) or not is_world(yard, log, other):
        raise NoAsk("the log is not one that both worlds give")
    return parted(yard, one, other, shifts(yard, log))


def _for_ever(yard, world):
    """Numbers that tell of each weighing its first word, and how it rests: alike for just the worlds alike for ever."""
    told = []
    for beam, step in yard.beams():
        for total in first_sums(world, weighings_by(yard, beam)):
            told.append(2 * (total // step) + (0 if total % step == 0 else 1))
    return tuple(told)


def lots(net):
    """One world, the first, of each lot of worlds of the log that are alike for ever; TooMany of more than 3000."""
    told = {}
    for world in net.worlds(MOST_WORLDS):
        told.setdefault(_for_ever(net.yard(), world), world)
    return list(told.values())


def classes(net):
    """How many lots of worlds there are, none of which is alike with one of another."""
    need_steps(net.yard())
    return len(lots(net))
