"""Worlds: what each thing weighs and how each beam leans at first, and the words that they give."""

from wearybeams.errors import NoAsk
from wearybeams.kinds import is_number, is_tuple
from wearybeams.rows import names_of, need_log, need_weighings

# how many steps a beam's lean moves behind each word
TURNS = {"left": -1, "even": 0, "right": 1}


def turn(yard, beam, word):
    """By how much the beam's lean is more behind the word."""
    return TURNS[word] * yard.step(beam)


def shifts(yard, log):
    """From each beam, in order, to how much more it leans behind the log than at first."""
    need_log(yard, log)
    told = {beam: 0 for beam in names_of(yard)}
    for beam, _, _, word in log:
        told[beam] += turn(yard, beam, word)
    return told


def word_of(total):
    """The word of a weighing that comes to this sum."""
    if total > 0:
        return "left"
    return "even" if total == 0 else "right"


def in_pans(world):
    """From nothing and from each thing to its weight."""
    weights, _ = world
    return {None: 0, **weights}


def heavier(world, one, other):
    """By how much other, in a pan, is heavier than one."""
    weighs = in_pans(world)
    return weighs[other] - weighs[one]


def first_sums(world, listed):
    """To what each of some weighings comes by the first leans."""
    weighs, leans = in_pans(world), world[1]
    return [weighs[left] - weighs[right] + leans[beam] for beam, left, right in listed]


def _words(yard, world, listed):
    """The log of weighings of the yard in a world of it."""
    weighs = in_pans(world)
    now = dict(world[1])
    log = []
    for beam, left, right in listed:
        word = word_of(weighs[left] - weighs[right] + now[beam])
        now[beam] += turn(yard, beam, word)
        log.append((beam, left, right, word))
    return log


def _are_numbers(thing, names, first, last):
    """Whether it is a dict from just these names, in any order, to numbers from first to last."""
    if type(thing) is not dict or len(thing) != len(names):
        return False
    return all([name in thing and is_number(thing[name], first, last) for name in names])


def is_some_world(yard, thing):
    """Whether it, of any kind, is a world of the yard, whatever its words."""
    if not is_tuple(thing, 2):
        return False
    weights, leans = thing
    lean = yard.lean()
    return _are_numbers(weights, yard.things(), 1, yard.most()) and _are_numbers(leans, names_of(yard), -lean, lean)


def need_some_world(yard, thing):
    """None of a world of the yard; NoAsk of anything else."""
    if not is_some_world(yard, thing):
        raise NoAsk("this is no world of the yard")


def told_by(yard, world, weighings):
    """The log that the beams tell of a list of weighings, in this order, in a world."""
    need_some_world(yard, world)
    need_weighings(yard, weighings)
    return _words(yard, world, weighings)


def is_world(yard, log, thing):
    """Whether it, of any kind, is a world of the yard that gives just this log."""
    need_log(yard, log)
    return is_some_world(yard, thing) and _words(yard, thing, [row[:3] for row in log]) == list(log)
