"""Yards: which things are weighed, by which beams, and within which bounds."""

from wearybeams.errors import NoBeam, NoYard
from wearybeams.kinds import is_list, is_number

MOST = 20
LEAN = 3


def is_name(thing):
    """Whether it, of any kind, is a text of 1 to 8 small letters."""
    # isascii, since small letters of other alphabets are none here
    return type(thing) is str and len(thing) <= 8 and thing.isascii() and thing.isalpha() and thing.islower()


def _are_names(things):
    return all([is_name(thing) for thing in things]) and len(set(things)) == len(things)


def _are_things(things):
    return is_list(things) and 1 <= len(things) <= 8 and _are_names(things)


def _is_beam(pair):
    return type(pair) is tuple and len(pair) == 2 and is_number(pair[1], -5, 5) and pair[1] != 0


def _are_beams(beams):
    if not is_list(beams) or not 1 <= len(beams) <= 3:
        return False
    return all([_is_beam(pair) for pair in beams]) and _are_names([pair[0] for pair in beams])


def _few_leans(beams, lean):
    """Whether all beams together have few enough tuples of first leans."""
    many = 1
    for _ in beams:
        many *= 2 * lean + 1
    return many <= 400


class Yard:
    """Things and beams by their names, the beams' steps, and the bounds of weights and leans."""

    def __init__(self, things, beams, *, most=MOST, lean=LEAN):
        if not _are_things(things):
            raise NoYard("things are a list of 1 to 8 unlike names")
        if not _are_beams(beams):
            raise NoYard("beams are a list of 1 to 3 tuples of unlike names and steps from -5 to 5, not 0")
        if not is_number(most, 1, 100):
            raise NoYard("most is a number from 1 to 100")
        if not is_number(lean, 0, 9):
            raise NoYard("lean is a number from 0 to 9")
        if not _few_leans(beams, lean):
            raise NoYard("the beams have more than 400 tuples of first leans")
        self._things = tuple(things)
        self._beams = tuple(beams)
        self._most = most
        self._lean = lean

    def things(self):
        """A new list of the things, in order."""
        return list(self._things)

    def beams(self):
        """A new list of the pairs (name, step), in order."""
        return list(self._beams)

    def most(self):
        """The most that a thing can weigh."""
        return self._most

    def lean(self):
        """The most that a beam can lean at first, to either side."""
        return self._lean

    def step(self, beam):
        """By how much the beam's lean moves; NoBeam of anything that is no beam."""
        for name, number in self._beams:
            if name == beam:
                return number
        raise NoBeam(beam)

    def __eq__(self, other):
        return (isinstance(other, Yard) and self._things == other._things and self._beams == other._beams
                and self._most == other._most and self._lean == other._lean)
