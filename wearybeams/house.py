"""Houses: where rows are told and taken back, and questions asked, all of it on record."""

from wearybeams.errors import NoAsk, NoRow, Torn
from wearybeams.kinds import is_tuple
from wearybeams.levels import tied
from wearybeams.nets import Net
from wearybeams.rows import is_row
from wearybeams.sheets import sheet
from wearybeams.torn import some_world, torn
from wearybeams.words import next_words


def _copied(thing):
    """A new thing, with nothing in it, however deep, that can be changed from without."""
    if type(thing) is tuple:
        return tuple([_copied(part) for part in thing])
    if type(thing) is dict:
        return {key: _copied(part) for key, part in thing.items()}
    return thing


class House:
    """A log of a yard that is never torn, and the record of what was done."""

    def __init__(self, yard):
        self._yard = yard
        self._log = []
        self._done = []

    def tell(self, beam, left, right, word):
        """A row behind the log; NoRow(0) of what makes none, Torn of a row that leaves no world."""
        row = (beam, left, right, word)
        if not is_row(self._yard, row):
            raise NoRow(0)
        net = Net(self._yard, [*self._log, row])
        tear = torn(net)
        if tear is not None:
            raise Torn(tear)
        self._log.append(row)
        self._done.append(("row", row, some_world(net)))

    def undo(self):
        """Takes the last row back: whether there was one."""
        if len(self._log) == 0:
            return False
        self._log.pop()
        self._done.append(("undo",))
        return True

    def ask(self, question):
        """What sheet, next_words or tied tells; NoAsk of no question."""
        answer = self._answered(question)
        self._done.append(("asked", question, answer))
        return _copied(answer)

    def _answered(self, question):
        net = Net(self._yard, self._log)
        if is_tuple(question, 3) and question[0] == "apart":
            return sheet(net, question[1], question[2])
        if is_tuple(question, 2) and question[0] == "next":
            return next_words(net, question[1])
        if is_tuple(question, 3) and question[0] == "tied" and type(question[1]) is tuple:
            return tied(self._yard, question[1], question[2])
        raise NoAsk("this is no question")

    def log(self):
        """A new list of the rows."""
        return list(self._log)

    def record(self):
        """A new list of what was done, refusals left out."""
        return [_copied(entry) for entry in self._done]
