"""Torn logs: the rings that no whole leans keep, and the worlds of logs that are not torn."""

from wearybeams.covers import are_needed, gathered
from wearybeams.errors import NoWorld
from wearybeams.nets import Net, all_leans
from wearybeams.ways import is_ring_by, steps_of, worth_by


def rings_against(net, tuples):
    """Rings, none to spare, one of which is worth less than 0 by each tuple of leans; None where a world has one."""
    yard = net.yard()
    steps = steps_of(yard, net.log())

    def broken_ring(leans):
        ring = net.ring(leans)
        return None if ring is None else (ring, worth_by(yard, steps, ring), 0)

    holds = gathered(tuples, broken_ring)
    return None if holds is None else tuple([ring for ring, _, _ in holds])


def are_against(yard, log, tuples, thing):
    """Whether it, of any kind, is rings, none to spare, one of which is worth less than 0 by each tuple of leans."""
    steps = steps_of(yard, log)
    if type(thing) is not tuple or not all([is_ring_by(steps, ring) for ring in thing]):
        return False
    return are_needed([(ring, worth_by(yard, steps, ring), 0) for ring in thing], tuples)


def torn(net):
    """None where there is a world, else a tear."""
    return rings_against(net, all_leans(net.yard()))


def is_tear(yard, log, thing):
    """Whether it, of any kind, is a tear of the log."""
    return are_against(yard, log, all_leans(yard), thing)


def need_worlds(net):
    """None where there is a world; NoWorld of a tear where there is none."""
    tear = torn(net)
    if tear is not None:
        raise NoWorld(tear)


def _is_torn(yard, log):
    return torn(Net(yard, log)) is not None


def first_torn(yard, log):
    """The least number of rows, from the first on, that are torn; None where the log is not."""
    if not _is_torn(yard, log):
        return None
    # no rows are never torn, and what is torn stays torn, so the number is found by halving
    whole, broken = 0, len(log)
    while broken - whole > 1:
        middle = (whole + broken) // 2
        if _is_torn(yard, log[:middle]):
            broken = middle
        else:
            whole = middle
    return broken


def some_world(net):
    """Of the worlds of the least leans the one in which each thing weighs least; NoWorld of a tear without."""
    for leans in all_leans(net.yard()):
        world = net.low(leans)
        if world is not None:
            return world
    raise NoWorld(torn(net))
