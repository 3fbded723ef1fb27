"""Who may ask the beams, and asks until all worlds that are left are alike for ever."""

from wearybeams.errors import NoDeed, Torn
from wearybeams.nets import Net
from wearybeams.parting import lots, need_steps, parted
from wearybeams.rows import WORDS
from wearybeams.torn import need_worlds, torn
from wearybeams.worlds import first_sums, shifts, turn, word_of


def _telling(worlds, weighing, shift, word):
    """Those of the worlds that tell the word of a weighing at a beam with such a shift."""
    return [world for world in worlds if word_of(first_sums(world, [weighing])[0] + shift) == word]


class Asker:
    """A net, and the rows that came when weighings were asked for that part its worlds."""

    def __init__(self, net):
        need_steps(net.yard())
        self._first = net
        self._rows = []
        self._asks = False

    def sound(self, weigh):
        """Asks partings until all worlds that are left are alike for ever; the list of the rows that came."""
        if self._asks:
            raise NoDeed("it is asking already")
        self._asks = True
        try:
            return self._sounded(weigh)
        finally:
            self._asks = False

    def _sounded(self, weigh):
        net = self.net()
        yard = net.yard()
        need_worlds(net)
        # worlds alike for ever give the same words, so one of each lot stands for all of it
        left = lots(net)
        shift = shifts(yard, net.log())
        came = len(self._rows)
        while len(left) > 1:
            # while both of these two are left they stay the first and the last, and what parts them behind the word
            # is the rest of their parting: so it is asked to its end, or until one of them is left no more
            weighing = parted(yard, left[0], left[-1], shift)[0]
            left = self._asked(weigh, weighing, left, shift)
        return self._rows[came:]

    def _asked(self, weigh, weighing, worlds, shift):
        """Asks a weighing, and keeps its row; those of the worlds that give its word, the shift being moved by it."""
        beam, left, right = weighing
        word = weigh(beam, left, right)
        telling = _telling(worlds, weighing, shift[beam], word)
        if len(telling) == 0:
            raise Torn(self._tear(weighing, word))
        self._rows.append((*weighing, word))
        shift[beam] += turn(self._first.yard(), beam, word)
        return telling

    def _tear(self, weighing, word):
        """A tear of the log with a row of a word that no world gives; no rings of what is no word."""
        if word not in WORDS:
            return ()
        net = self.net()
        return torn(Net(net.yard(), [*net.log(), (*weighing, word)]))

    def rows(self):
        """A new list of all rows that came."""
        return list(self._rows)

    def net(self):
        """The net of the log with all rows that came behind."""
        return Net(self._first.yard(), self._first.log() + self._rows)
