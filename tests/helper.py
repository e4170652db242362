"""What several tests share: any things, and a look at refusals."""

import unittest

from beatflows.errors import FlowError, Missing, NoKind, Unfit
from beatflows.programs import Program

# A node that a program may be made of alone.
SMALL = ("small", (), (("x", 1, (), None),), (), (("let", ("x",), ("lit", 1, 1)),))


def nested(depth):
    """A list of things within one another, so deep."""
    thing = []
    for _ in range(depth - 1):
        thing = [thing]
    return thing


def any_things():
    """Things of all kinds; none is a kind, a clock, a right side or a node, none a name but `lit` and `not`."""
    return [
        None, True, False, 0, -1, 9, 10 ** 29, -(10 ** 29),
        "", "A", "a b", "a.b.c", "abcdefghi", "lit", "not", "x" * 6000,
        [], [1], [0, 1, 1], [2, 3], ["name", "x"], ["lit", 1, 0], [("x", 1)],
        (1,), (None,), (True, False), ("name",), ("lit",), ("call",), ("let",), ("states",), ((), ()),
        {}, {"a": "b"}, {1: 2}, {("a", 1): ("b", 0)}, {"a": [1, {"b": (2,)}]},
        NoKind("x"), Unfit("a", 0, "why", []), FlowError("text"), Missing("text"), Program([SMALL]),
        nested(40), ("not", nested(38)), [[0] * 40] * 40,
    ]


class RefusalCase(unittest.TestCase):
    def refused(self, family, error, found, function, *things, **more):
        """It refuses with just this class, of this family, whose field is the very thing."""
        with self.assertRaises(error) as caught:
            function(*things, **more)
        self.assertIs(caught.exception.__class__, error)
        self.assertIsInstance(caught.exception, family)
        self.assertIs(caught.exception.found, found)

    def told_true(self, answer):
        self.assertIs(answer, True)

    def told_false(self, answer):
        self.assertIs(answer, False)

    def refused_fields(self, family, error, fields, function, *things, **more):
        """It refuses with just this class, of this family, with just these fields; returns the refusal."""
        with self.assertRaises(error) as caught:
            function(*things, **more)
        self.assertIs(caught.exception.__class__, error)
        self.assertIsInstance(caught.exception, family)
        self.assertEqual(vars(caught.exception), fields)
        return caught.exception

    def unfit(self, nodes, where, at, why, found, main=None):
        """A program of these nodes is refused with Unfit of just these four fields."""
        fields = {"where": where, "at": at, "why": why, "found": found}
        self.refused_fields(FlowError, Unfit, fields, Program, nodes, main=main)
