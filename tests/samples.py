"""Things of any kind, and yards, that several tests hand in."""

from wearybeams.yards import Yard


def nested(depth, kind):
    """A thing of one kind within another, so deep."""
    thing = "a"
    for _ in range(depth):
        thing = {"list": [thing], "tuple": (thing,), "dict": {"a": thing}}[kind]
    return thing


def anything():
    """Things of every kind that may be handed in: a new list, of new things, each time."""
    return [
        0, 1, 2, -1, 10 ** 6, -10 ** 6, 10 ** 39, True, False, None,
        "", "a", "x", "left", "abcdefgh", "abcdefghi", "A", "a1", "a b", "-", "a\n", "\n", " ", "~", "{}",
        [], [None], ["a"], ["a", "b"], [[]], [()], [{}], [0], [True], ["x", "a", None], [("x", "a", None)],
        (), (None,), ("a",), ("a", "b"), ((),), ([],), ({},), ("x", 1), ("x", "a", None), ("x", "a", None, "left"),
        ("x", ["a"], None), ("x", {"a": 1}, None), (["x"], "a", None), ({"x": 1}, "a", None, "left"),
        ("x", "a", None, ["left"]), ("x", 0, 1), (True, False, None), (None, None, None), (None, None, None, None),
        {}, {"a": 1}, {"x": 1}, {0: 1}, {"a": "x", "b": "y"}, {None: None}, {("x", 1): ("a",)}, {"left": ["a"]},
        nested(20, "list"), nested(20, "tuple"), nested(20, "dict"),
        [nested(19, "dict"), nested(19, "tuple")], {"a": nested(19, "list")},
    ]


def anything_but(*good):
    """All of these but what is equal to one of some, and of its kind (True is not 1)."""
    told = [(type(thing), thing) for thing in good]
    return [thing for thing in anything() if (type(thing), thing) not in told]


def small_yard():
    """Two things and two beams, one of which is called as a thing is."""
    return Yard(["a", "b"], [("x", 1), ("a", -2)])
