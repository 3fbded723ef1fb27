"""Yards and logs as texts of rows, each ended by a line feed, and read from them."""

from wearybeams.errors import NoRow, NoText
from wearybeams.kinds import is_list, is_tuple
from wearybeams.rows import WORDS, is_row
from wearybeams.yards import Yard, is_name

FIGURES = "0123456789"
MOST_FIGURES = 40
NOTHING = "-"

# which rows of a yard's text may stand behind which, None ahead of all
BEHIND = {None: ("things",), "things": ("beam",), "beam": ("beam", "most"), "most": ("lean",), "lean": ()}


def pan_of(word):
    """What a pan holds that is told by a word."""
    return None if word == NOTHING else word


def _word_of(pan):
    return NOTHING if pan is None else pan


def yard_text(yard):
    """The text of a yard."""
    rows = ["things " + " ".join(yard.things())]
    rows.extend([f"beam {name} {step}" for name, step in yard.beams()])
    rows.extend([f"most {yard.most()}", f"lean {yard.lean()}"])
    return "".join([row + "\n" for row in rows])


def _is_row_anywhere(thing):
    """Whether it, of any kind, is a row of some yard."""
    if not is_tuple(thing, 4):
        return False
    beam, left, right, word = thing
    named = is_name(beam) and all([pan is None or is_name(pan) for pan in (left, right)])
    return named and (left is None or left != right) and word in WORDS


def log_text(log):
    """The text of a log."""
    if not is_list(log):
        raise NoRow(0)
    told = []
    for at, row in enumerate(log):
        if not _is_row_anywhere(row):
            raise NoRow(at)
        beam, left, right, word = row
        told.append(f"{beam} {_word_of(left)} {_word_of(right)} {word}\n")
    return "".join(told)


def _ended_rows(text):
    """The rows of a text that a line feed ends, and what stands behind the last of these."""
    if type(text) is not str:
        raise NoText(0)
    *rows, rest = text.split("\n")
    return rows, rest


def _is_whole(word):
    """Whether a word is a whole number as it is written."""
    figures = word.removeprefix("-")
    # Python reads no number of thousands of figures, and none is that great
    if not 1 <= len(figures) <= MOST_FIGURES or not all([figure in FIGURES for figure in figures]):
        return False
    return figures[0] != "0" or word == "0"


def _is_yard_row(row):
    """Whether it is so, as a row of the text of a yard, wherever it stands."""
    kind, *words = row.split(" ")
    if kind == "things":
        return len(words) > 0 and all([is_name(word) for word in words])
    if kind == "beam":
        return len(words) == 2 and is_name(words[0]) and _is_whole(words[1])
    return kind in ("most", "lean") and len(words) == 1 and _is_whole(words[0])


def _need_yard_rows(rows, rest):
    """None of the rows of a yard, with nothing behind; NoText of the first that is not so, or where one lacks."""
    ahead = None
    for at, row in enumerate(rows):
        kind = row.split(" ")[0]
        if kind not in BEHIND[ahead] or not _is_yard_row(row):
            raise NoText(at)
        ahead = kind
    if ahead != "lean" or rest != "":
        raise NoText(len(rows))


def read_yard(text):
    """The yard of a text; NoText of the first row that is not so, then NoYard."""
    rows, rest = _ended_rows(text)
    _need_yard_rows(rows, rest)
    words = [row.split(" ") for row in rows]
    beams = [(name, int(step)) for _, name, step in words[1:-2]]
    return Yard(words[0][1:], beams, most=int(words[-2][1]), lean=int(words[-1][1]))


def read_log(yard, text):
    """The log of a text; NoText of the first row that is not so."""
    rows, rest = _ended_rows(text)
    log = []
    for at, row in enumerate(rows):
        told = row.split(" ")
        if len(told) == 4:
            told[1:3] = [pan_of(told[1]), pan_of(told[2])]
        if not is_row(yard, tuple(told)):
            raise NoText(at)
        log.append(tuple(told))
    if rest != "":
        raise NoText(len(rows))
    return log
