"""What several tests share: any things, and a look at refusals."""

import unittest

from beatflows.errors import FlowError, Missing, NoKind, Unfit


def nested(depth):
    """A list of things within one another, so deep."""
    thing = []
    for _ in range(depth - 1):
        thing = [thing]
    return thing


def any_things():
    """Things of all kinds; none is a kind, a clock, a right side or a node, none a name but `lit` and `not`."""
    return [
        None, True, False, 0, -1, 9, 10 ** 29, -(10 ** 29),
        "", "A", "a b", "a.b.c", "abcdefghi", "lit", "not", "x" * 6000,
        [], [1], [0, 1, 1], [2, 3], ["name", "x"], ["lit", 1, 0], [("x", 1)],
        (1,), (None,), (True, False), ("name",), ("lit",), ("call",), ("let",), ("states",), ((), ()),
        {}, {"a": "b"}, {1: 2}, {("a", 1): ("b", 0)}, {"a": [1, {"b": (2,)}]},
        NoKind("x"), Unfit("a", 0, "why", []), FlowError("text"), Missing("text"),
        nested(40), ("not", nested(38)), [[0] * 40] * 40,
    ]


class RefusalCase(unittest.TestCase):
    def refused(self, family, error, found, function, *things, **more):
        """It refuses with just this class, of this family, whose field is the very thing."""
        with self.assertRaises(error) as caught:
            function(*things, **more)
        self.assertIs(caught.exception.__class__, error)
        self.assertIsInstance(caught.exception, family)
        self.assertIs(caught.exception.found, found)

    def told_true(self, answer):
        self.assertIs(answer, True)

    def told_false(self, answer):
        self.assertIs(answer, False)
