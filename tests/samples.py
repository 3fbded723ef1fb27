"""Things of any kind, yards and logs, that several tests hand in."""

import random

import brute
from wearybeams.errors import Torn
from wearybeams.yards import Yard


def nested(depth, kind):
    """A thing of one kind within another, so deep."""
    thing = "a"
    for _ in range(depth):
        thing = {"list": [thing], "tuple": (thing,), "dict": {"a": thing}}[kind]
    return thing


def anything():
    """Things of every kind that may be handed in: a new list, of new things, each time."""
    return [
        0, 1, 2, -1, 10 ** 6, -10 ** 6, 10 ** 39, True, False, None,
        "", "a", "x", "left", "abcdefgh", "abcdefghi", "A", "a1", "a b", "-", "a\n", "\n", " ", "~", "{}",
        [], [None], ["a"], ["a", "b"], [[]], [()], [{}], [0], [True], ["x", "a", None], [("x", "a", None)],
        (), (None,), ("a",), ("a", "b"), ((),), ([],), ({},), ("x", 1), ("x", "a", None), ("x", "a", None, "left"),
        ("x", ["a"], None), ("x", {"a": 1}, None), (["x"], "a", None), ({"x": 1}, "a", None, "left"),
        ("x", "a", None, ["left"]), ("x", 0, 1), (True, False, None), (None, None, None), (None, None, None, None),
        {}, {"a": 1}, {"x": 1}, {0: 1}, {"a": "x", "b": "y"}, {None: None}, {("x", 1): ("a",)}, {"left": ["a"]},
        nested(20, "list"), nested(20, "tuple"), nested(20, "dict"),
        [nested(19, "dict"), nested(19, "tuple")], {"a": nested(19, "list")},
    ]


def anything_but(*good):
    """All of these but what is equal to one of some, and of its kind (True is not 1)."""
    told = [(type(thing), thing) for thing in good]
    return [thing for thing in anything() if (type(thing), thing) not in told]


def small_yard():
    """Two things and two beams, one of which is called as a thing is."""
    return Yard(["a", "b"], [("x", 1), ("a", -2)])


def two_beams():
    """Two things and two beams, with the logs that follow here."""
    return Yard(["a", "b"], [("x", 2), ("y", -1)], most=6, lean=2)


def good_log():
    return [("x", "a", "b", "left"), ("y", "b", None, "right")]


def torn_log():
    return [("x", "a", None, "left"), ("y", None, None, "left"), ("y", None, None, "right")]


def tiny_yards():
    """Yards of so few worlds that a test can go through all of them."""
    return [
        Yard(["a"], [("x", 1)], most=3, lean=1),
        Yard(["a", "b"], [("x", 2)], most=4, lean=2),
        Yard(["a", "b"], [("x", 1), ("y", -2)], most=3, lean=1),
        Yard(["b", "c", "a"], [("x", -1)], most=3, lean=1),
        Yard(["a", "b"], [("z", 1), ("y", -1), ("x", 3)], most=2, lean=1),
        Yard(["a", "b"], [("x", 5), ("a", -3)], most=3, lean=2),
        Yard(["a", "b", "c"], [("x", 1), ("y", 2)], most=3, lean=0),
    ]


def rising_yards():
    """Yards of steps above 0 alone, of so few worlds that a test can go through all pairs of them."""
    return [
        Yard(["a"], [("x", 1)], most=3, lean=1),
        Yard(["a"], [("x", 3)], most=7, lean=2),
        Yard(["a", "b"], [("x", 2)], most=4, lean=1),
        Yard(["a", "b"], [("x", 2), ("a", 3)], most=3, lean=1),
        Yard(["b", "a"], [("y", 5), ("x", 4)], most=3, lean=1),
        Yard(["a", "b", "c"], [("x", 5)], most=3, lean=1),
        Yard(["a"], [("x", 2), ("y", 3), ("z", 5)], most=2, lean=1),
        Yard(["a"], [("x", 5)], most=2, lean=9),
    ]


def rising_logs(seed, many):
    """Pairs of such a yard and a log that some world gives."""
    chance = random.Random(seed)
    return [(yard, some_log(yard, chance, chance.choice([0, 1, 2, 3, 5, 9, 20])))
            for yard in rising_yards() for _ in range(many)]


def falling_yard():
    """The steps of the second and the third beam are below 0."""
    return Yard(["a", "b"], [("x", 2), ("y", -1), ("z", -3)], most=4, lean=1)


def great_yard(chance):
    """Three beams, eight things and weights to 100."""
    steps = [chance.choice([-5, -4, -3, -2, -1, 1, 2, 3, 4, 5]) for _ in range(3)]
    return Yard(list("abcdefgh"), list(zip("xyz", steps)), most=100, lean=3)


def some_weighing(yard, chance):
    left, right = chance.choice([pair for pair in brute.pairs(yard) if pair == (None, None) or len(set(pair)) == 2])
    return (chance.choice(yard.beams())[0], left, right)


def some_log(yard, chance, many, wrong=0):
    """A log of so many rows that a world gives, but for so many words, which may be any."""
    world = ({thing: chance.randint(1, yard.most()) for thing in yard.things()},
             {beam: chance.randint(-yard.lean(), yard.lean()) for beam, _ in yard.beams()})
    log = brute.words(yard, world, [some_weighing(yard, chance) for _ in range(many)])
    for at in chance.sample(range(many), min(many, wrong)):
        log[at] = (*log[at][:3], chance.choice(brute.WORDS))
    return log


def tiny_logs(seed, many):
    """Pairs of a tiny yard and a log: so many of each yard, about half of the logs with wrong words."""
    chance = random.Random(seed)
    return [(yard, some_log(yard, chance, chance.randint(0, 9), chance.choice([0, 0, 1, 2])))
            for yard in tiny_yards() for _ in range(many)]


def gap_logs():
    """Pairs of a yard and a log with gaps: two pans are apart by twice a lean, or lean x is twice lean y."""
    one = Yard(["a", "b", "c"], [("x", 2)], most=5, lean=2)
    two = Yard(["a", "b", "c"], [("x", 1), ("y", 1)], most=5, lean=2)
    evens = [("y", "a", "b", "even"), ("y", "b", "c", "even"), ("x", "a", "c", "even")]
    return [(one, [("x", "a", "b", "even"), ("x", "b", "c", "even")]), (two, evens),
            (two, [*evens, ("x", None, None, "right"), ("x", "a", "c", "left")])]


def great_logs(seed, wrongs):
    """Pairs of a great yard and a log, one for each number of wrong words."""
    chance = random.Random(seed)
    told = []
    for wrong in wrongs:
        yard = great_yard(chance)
        told.append((yard, some_log(yard, chance, chance.choice([10, 40, 120]), wrong)))
    return told


def otherwise(thing):
    """New things, each like a thing but for one place, however deep, where something stands otherwise."""
    if type(thing) is int:
        told = [thing + 1, thing - 1, -thing, str(thing), None, (thing,)]
        return told + [bool(thing)] if thing in (0, 1) else told
    if type(thing) is str:
        return ["", thing + "s", "a", "b", "most", "least", "ring", "way", "back", None, 0, [thing], (thing,)]
    if type(thing) is dict:
        told = [{**thing, "q": 1}, list(thing.items()), dict(reversed(thing.items()))]
        told += [{key: thing[key] for key in thing if key != out} for out in thing]
        return told + [{**thing, key: other} for key in thing for other in otherwise(thing[key])]
    if type(thing) is not tuple:
        return ["a", 0, True, (), []]
    told = [list(thing), (*thing, None), thing * 2, thing[::-1], thing[1:] + thing[:1], (thing,), {}, None]
    told += [thing[:at] + thing[at + 1:] for at in range(len(thing))]
    told += [thing[:at] + (thing[at], thing[at]) + thing[at + 1:] for at in range(len(thing))]
    return told + [(*thing[:at], other, *thing[at + 1:]) for at in range(len(thing)) for other in otherwise(thing[at])]


def some_question(yard, chance):
    """A question of a house."""
    kind = chance.choice(["apart", "next", "tied"])
    if kind == "apart":
        return (kind, *chance.choice(brute.pairs(yard)))
    if kind == "next":
        return (kind, some_weighing(yard, chance))
    weighings = tuple(some_weighing(yard, chance) for _ in range(chance.choice([0, 1, 3, 6])))
    return (kind, weighings, chance.choice(yard.beams())[0])


def lived_in(house, yard, chance, many):
    """Does so many things with a house: rows, right and torn ones, undoing, questions."""
    for _ in range(many):
        deed = chance.choice(["tell", "tell", "tell", "undo", "ask", "ask"])
        if deed == "undo":
            house.undo()
        elif deed == "ask":
            house.ask(some_question(yard, chance))
        else:
            try:
                house.tell(*some_weighing(yard, chance), chance.choice(brute.WORDS))
            except Torn:
                pass
    return house


def slips_of(log):
    """The slips of a log, each beam's rows numbered from 1."""
    told, many = [], {}
    for beam, left, right, word in log:
        many[beam] = many.get(beam, 0) + 1
        told.append((beam, many[beam], left, right, word))
    return told


class Beams:
    """Beams of a world behind a log: called, they weigh."""

    def __init__(self, yard, world, log=()):
        self.yard, self.world, self.log = yard, world, list(log)
        self.came = []

    def __call__(self, beam, left, right):
        weighings = [*[row[:3] for row in self.log + self.came], (beam, left, right)]
        self.came.append(brute.words(self.yard, self.world, weighings)[-1])
        return self.came[-1][3]
