"""The document's words once more, reckoned the long way, through all worlds and all leans: what tests compare with.

Nothing of the package but yards is used here.
"""

import itertools
from math import inf

WORDS = ("left", "even", "right")


def things_and_beams(yard):
    return yard.things(), [name for name, _ in yard.beams()]


def pans(yard):
    return [None, *yard.things()]


def pairs(yard):
    """All pairs of pans."""
    return [(one, other) for one in pans(yard) for other in pans(yard)]


def weighings(yard, only=None):
    """All weighings, or those by one beam."""
    return [(beam, left, right) for beam, _ in yard.beams() if only in (None, beam)
            for left, right in pairs(yard) if left is None or left != right]


def leans_of(yard):
    """All tuples of first leans, rising."""
    return list(itertools.product(range(-yard.lean(), yard.lean() + 1), repeat=len(yard.beams())))


def words(yard, world, weighings):
    """The log of some weighings in a world."""
    weighs = {None: 0, **world[0]}
    leans = dict(world[1])
    steps = dict(yard.beams())
    log = []
    for beam, left, right in weighings:
        total = weighs[left] - weighs[right] + leans[beam]
        word = WORDS[(total < 0) - (total > 0) + 1]
        leans[beam] += {"left": -steps[beam], "even": 0, "right": steps[beam]}[word]
        log.append((beam, left, right, word))
    return log


def shifts(yard, log):
    told = {}
    for beam, step in yard.beams():
        said = [row[3] for row in log if row[0] == beam]
        told[beam] = step * (said.count("right") - said.count("left"))
    return told


def all_worlds(yard):
    """All worlds of a yard, rising by leans, then by weights."""
    things, beams = things_and_beams(yard)
    return [(dict(zip(things, weights)), dict(zip(beams, leans)))
            for leans in leans_of(yard)
            for weights in itertools.product(range(1, yard.most() + 1), repeat=len(things))]


def worlds(yard, log):
    """All worlds that give a log, in that order."""
    return [world for world in all_worlds(yard) if words(yard, world, [row[:3] for row in log]) == list(log)]


def leans_in(yard, world):
    return tuple(world[1][name] for name, _ in yard.beams())


def heavier(world, one, other):
    """By how much other is heavier than one."""
    weighs = {None: 0, **world[0]}
    return weighs[other] - weighs[one]


def stretches(numbers):
    """The stretches of some numbers."""
    told = []
    for number in sorted(set(numbers)):
        if told and told[-1][1] == number - 1:
            told[-1] = (told[-1][0], number)
        else:
            told.append((number, number))
    return told


def is_world(yard, log, thing):
    if type(thing) is not tuple or len(thing) != 2 or [type(part) for part in thing] != [dict, dict]:
        return False
    things, beams = things_and_beams(yard)
    if set(thing[0]) != set(things) or set(thing[1]) != set(beams):
        return False
    if {type(number) for part in thing for number in part.values()} != {int}:
        return False
    if not all(1 <= weight <= yard.most() for weight in thing[0].values()):
        return False
    if not all(abs(lean) <= yard.lean() for lean in thing[1].values()):
        return False
    return words(yard, thing, [row[:3] for row in log]) == list(log)


def word_at(yard, world, weighing, shift):
    """The word of a weighing behind rows that moved the leans by so much: shifts by beams."""
    beam, left, right = weighing
    return words(yard, (world[0], {**world[1], beam: world[1][beam] + shift[beam]}), [weighing])[0][3]


def moved_by(yard, shift, beam, word):
    """The shifts behind one word more."""
    return {**shift, beam: shift[beam] + shifts(yard, [(beam, None, None, word)])[beam]}


def fewest_parting(yard, one, other, log):
    """How few weighings, at whatever beams, have unlike words in two worlds behind a log of both; None without any."""
    row = [shifts(yard, log)]
    seen, many = [tuple(row[0].values())], 0
    while row:
        many, behind = many + 1, []
        for shift in row:
            for weighing in weighings(yard):
                word = word_at(yard, one, weighing, shift)
                if word != word_at(yard, other, weighing, shift):
                    return many
                new = moved_by(yard, shift, weighing[0], word)
                if tuple(new.values()) not in seen:
                    seen.append(tuple(new.values()))
                    behind.append(new)
        row = behind
    return None


def lots(yard, right):
    """Some worlds, in lots of worlds that are alike for ever."""
    told = []
    for world in right:
        for lot in told:
            if fewest_parting(yard, lot[0], world, []) is None:
                lot.append(world)
                break
        else:
            told.append([world])
    return told


def comes_to(ask, world):
    if ask[0] == "heavier":
        more = heavier(world, ask[2], ask[1])
        return (more > 0) - (more < 0)
    return world[0][ask[1]] if ask[0] == "weight" else world[1][ask[1]]


def asks(yard):
    """All asks."""
    return ([("heavier", one, other) for one, other in pairs(yard) if one != other]
            + [("weight", thing) for thing in yard.things()] + [("lean", beam) for beam, _ in yard.beams()])


def by_words(yard, right, weighing, shift):
    """Some worlds by their word of a weighing, in the order of words."""
    told = {word: [] for word in WORDS}
    for world in right:
        told[word_at(yard, world, weighing, shift)].append(world)
    return {word: some for word, some in told.items() if some}


def can_be_told(yard, right, shift, ask, deep):
    """Whether some plan, at most so deep, tells the ask in some worlds."""
    if len({comes_to(ask, world) for world in right}) == 1:
        return True
    return deep > 0 and any(
        all(can_be_told(yard, some, moved_by(yard, shift, weighing[0], word), ask, deep - 1)
            for word, some in by_words(yard, right, weighing, shift).items())
        for weighing in weighings(yard))


def depth(thing):
    """How deep a plan is."""
    return 0 if thing is None else 1 + max(depth(part) for part in thing[1].values())


def is_plan(yard, right, shift, ask, thing):
    """Whether anything is a plan where some worlds are left."""
    if len({comes_to(ask, world) for world in right}) == 1:
        return thing is None
    if type(thing) is not tuple or len(thing) != 2 or thing[0] not in weighings(yard) or type(thing[1]) is not dict:
        return False
    parts = by_words(yard, right, thing[0], shift)
    return list(thing[1]) == list(parts) and all(
        is_plan(yard, some, moved_by(yard, shift, thing[0][0], word), ask, thing[1][word])
        for word, some in parts.items())


def is_foil(yard, log, ask, most, thing):
    if most == 0:
        return (type(thing) is tuple and len(thing) == 2 and all(is_world(yard, log, world) for world in thing)
                and comes_to(ask, thing[0]) != comes_to(ask, thing[1]))
    if type(thing) is not dict or list(thing) != weighings(yard):
        return False
    return all(type(part) is tuple and len(part) == 2 and part[0] in WORDS
               and is_foil(yard, [*log, (*weighing, part[0])], ask, most - 1, part[1])
               for weighing, part in thing.items())


def sums(yard, weighing):
    """Left pan less right pan and the beam weighed at: a dict from things and beams to numbers."""
    beam, left, right = weighing
    told = {**{("thing", thing): 0 for thing in yard.things()}, **{("beam", name): 0 for name, _ in yard.beams()}}
    for pan, number in [(left, 1), (right, -1)]:
        if pan is not None:
            told["thing", pan] += number
    told["beam", beam] += 1
    return told


def is_tie(yard, weighings, beam, thing):
    if type(thing) is not tuple or [type(part) for part in thing] != [dict, int] or thing[1] < 1:
        return False
    numbers = [*thing[0], *thing[0].values()]
    if {type(number) for number in numbers} - {int} or 0 in thing[0].values():
        return False
    if list(thing[0]) != sorted(thing[0]) or not all(0 <= at < len(weighings) for at in thing[0]):
        return False
    total = {key: sum(sums(yard, weighings[at])[key] * many for at, many in thing[0].items())
             for key in sums(yard, (beam, None, None))}
    return total == {key: thing[1] * often for key, often in sums(yard, (beam, None, None)).items()}


def is_levelling(yard, weighings, beam, thing):
    if type(thing) is not tuple or [type(part) for part in thing] != [dict, dict]:
        return False
    if [list(part) for part in thing] != [yard.things(), [name for name, _ in yard.beams()]]:
        return False
    if {type(number) for part in thing for number in part.values()} != {int} or thing[1][beam] == 0:
        return False
    numbers = {**{("thing", name): number for name, number in thing[0].items()},
               **{("beam", name): number for name, number in thing[1].items()}}
    return all(sum(numbers[key] * often for key, often in sums(yard, weighing).items()) == 0 for weighing in weighings)


def steps(yard, log):
    """From each step, as it is written, to (pan left, pan led to, number, times)."""
    _, beams = things_and_beams(yard)
    told = {}
    for at, (beam, left, right, word) in enumerate(log):
        shift = shifts(yard, log[:at])[beam]
        once = tuple(int(name == beam) for name in beams)
        if word == "left":
            told[repr((at, "least"))] = (left, right, shift - 1, once)
        if word == "even":
            told[repr((at, "least"))] = (left, right, shift, once)
            told[repr((at, "most"))] = (right, left, -shift, tuple(-often for often in once))
        if word == "right":
            told[repr((at, "most"))] = (right, left, -shift - 1, tuple(-often for often in once))
    for thing in yard.things():
        told[repr(("most", thing))] = (None, thing, yard.most(), (0,) * len(beams))
        told[repr(("least", thing))] = (thing, None, -1, (0,) * len(beams))
    return told


class Walker:
    """Walks ways of one log."""

    def __init__(self, yard, log):
        self.yard, self.log = yard, list(log)
        self.steps = steps(yard, self.log)

    def walk(self, pan, thing):
        """The pan to which anything leads, in a list: [] of what is no way."""
        if type(thing) is not tuple:
            return []
        for step in thing:
            if repr(step) not in self.steps or self.steps[repr(step)][0] != pan:
                return []
            pan = self.steps[repr(step)][1]
        return [pan]

    def is_ring(self, thing):
        if type(thing) is not tuple or not thing or repr(thing[0]) not in self.steps:
            return False
        start = self.steps[repr(thing[0])][0]
        return self.walk(start, thing) == [start]

    def worth(self, way):
        told = [self.steps[repr(step)] for step in way]
        return (sum(number for _, _, number, _ in told),
                tuple(sum(times[at] for _, _, _, times in told) for at in range(len(self.yard.beams()))))

    def at(self, way, leans):
        """What a way is worth by some leans."""
        number, times = self.worth(way)
        return number + sum(often * lean for often, lean in zip(times, leans))

    def least(self, start, leans, many):
        """For each number of steps up to many: from each pan to the least that so many steps to it are worth."""
        edges = [(one, other, number + sum(often * lean for often, lean in zip(times, leans)))
                 for one, other, number, times in self.steps.values()]
        told = [{start: 0}]
        for _ in range(many):
            row = {}
            for one, other, worth in edges:
                if one in told[-1]:
                    row[other] = min(row.get(other, inf), told[-1][one] + worth)
            told.append(row)
        return told

    def needed(self, tuples, broken):
        """Whether each tuple of leans breaks something, and each thing is broken alone somewhere: lists by thing."""
        by_leans = [[at for at, leans_broken in enumerate(broken) if leans in leans_broken] for leans in tuples]
        return all(by_leans) and all([at] in by_leans for at in range(len(broken)))

    def rings_against(self, tuples, thing):
        """Whether anything is rings of which some is worth less than 0 by each of the tuples, none to spare."""
        if type(thing) is not tuple or not all(self.is_ring(ring) for ring in thing):
            return False
        return self.needed(tuples, [[leans for leans in tuples if self.at(ring, leans) < 0] for ring in thing])

    def is_tear(self, thing):
        return self.rings_against(leans_of(self.yard), thing)

    def is_lean_bar(self, beam, first, last, thing):
        place = [name for name, _ in self.yard.beams()].index(beam)
        tuples = [leans for leans in leans_of(self.yard)
                  if (-inf if first is None else first) <= leans[place] <= (inf if last is None else last)]
        return self.rings_against(tuples, thing)

    def is_bar(self, one, other, first, last, thing):
        first, last = -inf if first is None else first, inf if last is None else last
        tuples = leans_of(self.yard)
        broken = []
        if type(thing) is not tuple:
            return False
        for pair in thing:
            if type(pair) is not tuple or len(pair) != 2:
                return False
            kind, way = pair
            if kind == "ring" and self.is_ring(way):
                bound = 0
            elif kind == "way" and self.walk(one, way) == [other]:
                bound = first
            elif kind == "back" and self.walk(other, way) == [one]:
                bound = -last
            else:
                return False
            broken.append([leans for leans in tuples if self.at(way, leans) < bound])
        return self.needed(tuples, broken)

    def is_sheet(self, one, other, thing):
        """Whether anything is a sheet, its stretches being whatever its spans come to and its bars leave."""
        if type(thing) is not tuple or len(thing) != 3 or {type(part) for part in thing} != {tuple}:
            return False
        told, spans, bars = thing
        if len(told) != len(spans) or len(bars) != len(told) + 1 or not told:
            return False
        ends = []
        for pair in told:
            if type(pair) is not tuple or [type(number) for number in pair] != [int, int] or pair[0] > pair[1]:
                return False
            ends.extend(pair)
        if any(later - sooner < 2 for sooner, later in zip(ends[1::2], ends[2::2])):
            return False
        gaps = list(zip([None, *[last + 1 for last in ends[1::2]]], [*[first - 1 for first in ends[::2]], None]))
        return (all(self.spans(one, other, pair, some) for pair, some in zip(told, spans))
                and all(self.is_bar(one, other, first, last, some) for (first, last), some in zip(gaps, bars)))

    def spans(self, one, other, pair, thing):
        """Whether anything is spans of one stretch."""
        if type(thing) is not tuple:
            return False
        reached = set()
        for span in thing:
            if type(span) is not tuple or len(span) != 2:
                return False
            if not all(is_world(self.yard, self.log, world) for world in span):
                return False
            low, high = [heavier(world, one, other) for world in span]
            if span[0][1] != span[1][1] or low > high:
                return False
            reached.update(range(low, high + 1))
        return reached == set(range(pair[0], pair[1] + 1))


def is_row(yard, thing):
    return type(thing) is tuple and thing in [(*weighing, word) for weighing in weighings(yard) for word in WORDS]


def is_answer(yard, log, question, answer):
    """Whether anything is a question with an answer that is so."""
    if type(question) is not tuple or not question or type(question[0]) is not str:
        return False
    kind, *parts = question
    if kind == "apart" and len(parts) == 2 and all(pan in pans(yard) for pan in parts):
        return Walker(yard, log).is_sheet(*parts, answer)
    if kind == "next" and len(parts) == 1 and type(parts[0]) is tuple and parts[0] in weighings(yard):
        if type(answer) is not dict or list(answer) != list(WORDS):
            return False
        return all(is_word_told(yard, [*log, (*parts[0], word)], answer[word]) for word in WORDS)
    if kind == "tied" and len(parts) == 2 and type(parts[0]) is tuple and parts[1] in things_and_beams(yard)[1]:
        if not all(type(weighing) is tuple and weighing in weighings(yard) for weighing in parts[0]):
            return False
        if type(answer) is not tuple or len(answer) not in (2, 3):
            return False
        if len(answer) == 3:
            return answer[0] == "tie" and is_tie(yard, *parts, answer[1:])
        return answer[0] == "level" and is_levelling(yard, *parts, answer[1])
    return False


def is_word_told(yard, behind, thing):
    """Whether anything shows that a log can be, or that it is torn."""
    if type(thing) is not tuple or len(thing) != 2:
        return False
    kind, shown = thing
    return kind == "can" and is_world(yard, behind, shown) or kind == "not" and Walker(yard, behind).is_tear(shown)


def judged(yard, record):
    """The number of the first entry of anything as a record that isn't so; None without."""
    if type(record) not in (list, tuple):
        return 0
    log = []
    for at, entry in enumerate(record):
        if type(entry) is not tuple or not entry or type(entry[0]) is not str:
            return at
        kind, *parts = entry
        if kind == "row" and len(parts) == 2 and is_row(yard, parts[0]) and is_world(yard, [*log, parts[0]], parts[1]):
            log.append(parts[0])
        elif kind == "undo" and not parts and log:
            log.pop()
        elif kind != "asked" or len(parts) != 2 or not is_answer(yard, log, *parts):
            return at
    return None
