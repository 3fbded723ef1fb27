"""A desk: a house that is talked to by rows of words."""

from wearybeams.errors import NoBeam, NoPan, NoRow, Torn
from wearybeams.house import House
from wearybeams.levels import tied
from wearybeams.nets import Net
from wearybeams.rows import WORDS
from wearybeams.stretches import apart, leaned, leans_now
from wearybeams.texts import pan_of
from wearybeams.words import next_words

# how many words stand behind the first one
FORMS = {"tell": 4, "apart": 2, "first": 1, "now": 1, "next": 3, "tied": 1, "undo": 0, "rows": 0}


def _is_known(words):
    """Whether some words are one of the forms."""
    if "" in words or FORMS.get(words[0]) != len(words) - 1:
        return False
    return words[0] != "tell" or words[4] in WORDS


def _stretches_text(stretches):
    return " ".join([str(first) if first == last else f"{first}..{last}" for first, last in stretches])


class Desk:
    """Answers rows of words about a yard's log, and tells rows to it."""

    def __init__(self, yard):
        self._yard = yard
        self._house = House(yard)

    def say(self, row):
        """The answer to a row."""
        words = row.split(" ")
        if not _is_known(words):
            return "what"
        try:
            return self._answer(words[0], words[1:])
        except (NoBeam, NoPan, NoRow):
            return "refused"
        except Torn as error:
            return f"torn {len(error.rings)}"

    def _answer(self, kind, words):
        if kind == "tell":
            return self._tell(words)
        if kind == "undo":
            return "ok" if self._house.undo() else "nothing"
        if kind == "rows":
            return str(len(self._house.log()))
        net = Net(self._yard, self._house.log())
        if kind == "next":
            told = next_words(net, (words[0], pan_of(words[1]), pan_of(words[2])))
            return " ".join([word for word in WORDS if told[word][0] == "can"])
        if kind == "tied":
            return tied(self._yard, [told[:3] for told in net.log()], words[0])[0]
        return _stretches_text(self._stretches(net, kind, words))

    def _tell(self, words):
        beam, left, right, word = words
        self._house.tell(beam, pan_of(left), pan_of(right), word)
        return "ok"

    def _stretches(self, net, kind, words):
        if kind == "apart":
            return apart(net, pan_of(words[0]), pan_of(words[1]))
        return leaned(net, words[0]) if kind == "first" else leans_now(net, words[0])


def answers(yard, text):
    """The answers of a new desk to the rows of a text."""
    rows = text.split("\n")
    if rows[-1] == "":
        rows.pop()
    desk = Desk(yard)
    return [desk.say(row) for row in rows]
