"""The judge of records, who only adds, and holds against whole leans, and never looks for anything."""

from wearybeams.errors import NoDeed
from wearybeams.house import House
from wearybeams.kinds import is_list, is_tuple
from wearybeams.levels import is_levelling, is_tie
from wearybeams.rows import WORDS, is_row, is_weighing, names_of, pans_of
from wearybeams.sheets import is_sheet
from wearybeams.torn import is_tear
from wearybeams.worlds import is_world


def _is_word_told(yard, log, row, thing):
    """Whether it, of any kind, shows that a row can come behind the log, or that it cannot."""
    if not is_tuple(thing, 2):
        return False
    kind, shown = thing
    behind = [*log, row]
    if kind == "can":
        return is_world(yard, behind, shown)
    return kind == "not" and is_tear(yard, behind, shown)


def _are_words_told(yard, log, weighing, thing):
    """Whether it, of any kind, is what next_words may tell."""
    if type(thing) is not dict or list(thing) != list(WORDS):
        return False
    return all([_is_word_told(yard, log, (*weighing, word), thing[word]) for word in WORDS])


def _is_tied_told(yard, weighings, beam, thing):
    """Whether it, of any kind, is what tied may tell."""
    if is_tuple(thing, 3):
        return thing[0] == "tie" and is_tie(yard, weighings, beam, thing[1:])
    return is_tuple(thing, 2) and thing[0] == "level" and is_levelling(yard, weighings, beam, thing[1])


def _are_weighings(yard, thing):
    return type(thing) is tuple and all([is_weighing(yard, weighing) for weighing in thing])


def _is_so(yard, log, question, answer):
    """Whether question and answer, of any kind, are such that the one can be asked, and the other is so."""
    if is_tuple(question, 2):
        kind, weighing = question
        return kind == "next" and is_weighing(yard, weighing) and _are_words_told(yard, log, weighing, answer)
    if not is_tuple(question, 3):
        return False
    kind, one, other = question
    if kind == "apart":
        pans = pans_of(yard)
        return one in pans and other in pans and is_sheet(yard, log, one, other, answer)
    can = kind == "tied" and _are_weighings(yard, one) and other in names_of(yard)
    return can and _is_tied_told(yard, one, other, answer)


def _logs_behind(yard, log, entry):
    """The log behind an entry, of any kind, in a list: [] where it is none, cannot be done or is not so."""
    if entry == ("undo",):
        return [log[:-1]] if len(log) > 0 else []
    if not is_tuple(entry, 3):
        return []
    kind, one, other = entry
    if kind == "row":
        return [[*log, one]] if is_row(yard, one) and is_world(yard, [*log, one], other) else []
    return [log] if kind == "asked" and _is_so(yard, log, one, other) else []


def judged(yard, record):
    """None of a record that is so; else the number of its first entry that is not, 0 where it is no list."""
    if not is_list(record):
        return 0
    log = []
    for at, entry in enumerate(record):
        behind = _logs_behind(yard, log, entry)
        if len(behind) == 0:
            return at
        log = behind[0]
    return None


def again(yard, record):
    """A house by which all of a record was done again; NoDeed of a record that is not so."""
    if judged(yard, record) is not None:
        raise NoDeed("the record is not so")
    house = House(yard)
    for entry in record:
        if entry[0] == "row":
            beam, left, right, word = entry[1]
            house.tell(beam, left, right, word)
        elif entry[0] == "undo":
            house.undo()
        else:
            house.ask(entry[1])
    return house
