"""Ways from pan to pan by the steps that a log lets be, and the rings among them."""

from wearybeams.kinds import is_tuple
from wearybeams.rows import names_of, need_log, need_pan
from wearybeams.worlds import turn


def _once(places, place, many):
    """How often each beam's first lean comes: that of one beam so many times, all others not."""
    return tuple([many if at == place else 0 for at in range(places)])


def _row_steps(at, row, place, places, shift):
    """The steps that a row lets be: at its number, by the beam in this place, with this shift ahead."""
    _, left, right, word = row
    less = 0 if word == "even" else 1
    told = {}
    if word != "right":
        told[(at, "least")] = (left, right, (shift - less, _once(places, place, 1)))
    if word != "left":
        told[(at, "most")] = (right, left, (-shift - less, _once(places, place, -1)))
    return told


def steps_of(yard, log):
    """From each step that the log and the yard let be to (the pan it leaves, the pan it leads to, its worth)."""
    need_log(yard, log)
    names = names_of(yard)
    shift = {name: 0 for name in names}
    steps = {}
    for at, row in enumerate(log):
        beam, word = row[0], row[3]
        row_steps = _row_steps(at, row, names.index(beam), len(names), shift[beam])
        for step, told in row_steps.items():
            steps[step] = told
        shift[beam] += turn(yard, beam, word)
    never = (0,) * len(names)
    for thing in yard.things():
        steps[("most", thing)] = (None, thing, (yard.most(), never))
        steps[("least", thing)] = (thing, None, (-1, never))
    return steps


def _is_step(steps, thing):
    if not is_tuple(thing, 2):
        return False
    first, last = thing
    # as a key True would pass for 1, and a list cannot be looked up at all
    return type(first) in (int, str) and type(last) is str and thing in steps


def led_by(steps, pan, thing):
    """As led, by the steps that a log lets be."""
    if type(thing) is not tuple:
        return []
    for step in thing:
        if not _is_step(steps, step) or steps[step][0] != pan:
            return []
        pan = steps[step][1]
    return [pan]


def is_ring_by(steps, thing):
    """As is_ring, by the steps that a log lets be."""
    if type(thing) is not tuple or len(thing) == 0 or not _is_step(steps, thing[0]):
        return False
    start = steps[thing[0]][0]
    return led_by(steps, start, thing) == [start]


def worth_by(yard, steps, way):
    """As worth_of, by the steps that a log lets be."""
    number = 0
    times = [0 for _ in yard.beams()]
    for step in way:
        more, often = steps[step][2]
        number += more
        times = [one + other for one, other in zip(times, often)]
    return (number, tuple(times))


def led(yard, log, pan, thing):
    """The pan to which it, of any kind, leads as a way from a pan, in a list: [] where it is no way from there."""
    steps = steps_of(yard, log)
    need_pan(yard, pan)
    return led_by(steps, pan, thing)


def worth_of(yard, log, way):
    """The worth of a way: its steps' numbers together, and how often each beam's first lean comes, in order."""
    return worth_by(yard, steps_of(yard, log), way)


def worth_at(worth, leans):
    """The number to which a worth comes by a tuple of first leans."""
    number, times = worth
    return number + sum([often * lean for often, lean in zip(times, leans)])


def is_ring(yard, log, thing):
    """Whether it, of any kind, is a way of one step or more back to where its first step begins."""
    return is_ring_by(steps_of(yard, log), thing)
