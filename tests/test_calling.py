"""Promise 25: calls and loops, in states and out of them, with every and without."""

from beatflows.programs import Program
from tests.helper import SMALL, RefusalCase
from tests.nodes import CROSS, PLUS, SUM, TWICE, block, let, lit, n, node, state

A = ("a", 1)
SOME = [("a", 1), ("b", 1, (A,)), ("w", 4), ("v", 2), ("wa", 4, (A,)), ("r", (3, 4)), ("s", (2, 4)), ("q", (4, 4)),
        ("t", (3, 1)), ("ra", (3, 4), (A,)), ("ea", 1, (("a", 0),))]
ROWED = node("rowed", [("p", (3, 4))], [("o", (3, 4))], [], let("o", n("p")))
TOROW = node("torow", [("p", 4)], [("o", (2, 4))], [], let("o", ("row", (n("p"), n("p")))))
LESS = node("less", [("p", 4), ("o", 4)], [("l", 1)], [], let("l", ("less", n("p"), n("o"))))
MIXED = node("mixed", [("p", 4), ("o", 1)], [("l", 4)], [], let("l", n("p")))
STARTED = node("started", [("p", (3, 4)), ("o", 4)], [("l", (3, 4))], [], let("l", n("p")))
WIDER = node("wider", [("p", 4), ("o", 4)], [("l", 8)], [], let("l", ("wide", 8, n("p"))))
LONE = node("lone", [], [("l", 4)], [], let("l", lit(4, 7)))
ROWIN = node("rowin", [("p", 4), ("o", (3, 4))], [("l", 4)], [], let("l", n("p")))
NODES = [SMALL, TWICE, PLUS, SUM, CROSS, ROWED, TOROW, LESS, MIXED]
MORE = [LONE, STARTED, WIDER, ROWIN, TWICE, PLUS, CROSS]


class CallCase(RefusalCase):
    ahead = NODES

    def made(self, right, *kinds, clock=(), bound=False):
        names = ["x", "y", "z"][:len(kinds)]
        outs = [(name, kind, clock) for name, kind in zip(names, kinds)]
        lets = [let(" ".join(names), right)]
        if clock != ():
            outs.append(("k", 1, ()))
            lets.append(let("k", lit(1, 0)))
        if bound:
            lets = [block(state("s", lets))]
        return [*self.ahead, node("m", SOME, outs, [], *lets)]

    def comes(self, right, *kinds, clock=()):
        for bound in (False, True) if clock in ((), None) else (False,):
            program = Program(self.made(right, *kinds, clock=clock or (), bound=bound))
            self.assertEqual(program.kinds_at("m", 0), list(kinds))
            told = program.clock_at("m", 0)
            if bound and clock is None:
                self.assertIn(told, (None, ()))
            else:
                self.assertEqual(told, clock)

    def misfits(self, right, why, found, *kinds):
        for bound in (False, True):
            self.unfit(self.made(right, *(kinds or (4,)), bound=bound), "m", 0, why, found)


class Calls(CallCase):
    def test_what_comes(self):
        self.comes(("call", "twice", (n("w"),), None), 4)
        self.comes(("call", "plus", (n("w"), lit(4, 1)), "a"), 4)
        self.comes(("call", "cross", (n("w"), n("w")), None), 4, 4)
        self.comes(("call", "rowed", (n("r"),), None), (3, 4))
        self.comes(("call", "torow", (lit(4, 1),), None), (2, 4), clock=None)
        self.comes(("call", "small", (), "a"), 1)

    def test_the_node(self):
        for name in ("none", "m", "n.plus", "x"):
            self.misfits(("call", name, (n("w"),), None), "unknown", name)
        behind = node("behind", [], [("x", 4)], [], let("x", ("call", "plus", (lit(4, 1), lit(4, 1)), None)))
        self.unfit([behind, PLUS], "behind", 0, "unknown", "plus")

    def test_every(self):
        for word in ("call", "map", "fold", "pairs"):
            right = {"call": ("twice", (n("w"),)), "map": ("twice", (n("r"),)), "fold": ("plus", n("w"), (n("r"),)),
                     "pairs": ("plus", n("r"))}[word]
            kind = {"call": 4, "map": (3, 4), "fold": 4, "pairs": (2, 4)}[word]
            Program(self.made((word, *right, "a"), kind))
            self.misfits((word, *right, "none"), "unknown", "none", kind)
            self.misfits((word, *right, "w"), "kind", "w", kind)
            self.misfits((word, *right, "t"), "kind", "t", kind)

    def test_as_many_as_ins_and_outs(self):
        self.misfits(("call", "plus", (n("w"),), None), "many", "plus")
        self.misfits(("call", "plus", (n("w"), n("w"), n("w")), None), "many", "plus")
        self.misfits(("call", "small", (n("w"),), None), "many", "small", 1)
        self.misfits(("call", "twice", (), None), "many", "twice")
        self.misfits(("call", "cross", (n("w"), n("w")), None), "many", "cross", 4)
        self.misfits(("call", "cross", (n("w"), n("w")), None), "many", "cross", 4, 4, 4)
        self.misfits(("call", "twice", (n("w"),), None), "many", "twice", 4, 4)

    def test_kinds_of_args(self):
        self.misfits(("call", "plus", (n("w"), n("v")), None), "kind", n("v"))
        self.misfits(("call", "plus", (n("r"), n("v")), None), "kind", n("r"))
        self.misfits(("call", "rowed", (n("s"),), None), "kind", n("s"), (3, 4))
        self.misfits(("call", "twice", (("not", n("v")),), None), "kind", ("not", n("v")))

    def test_the_terms_themselves(self):
        bad = ("add", n("w"), n("v"))
        self.misfits(("call", "twice", (bad,), None), "kind", bad)
        self.misfits(("call", "twice", (n("none"),), None), "unknown", "none")
        late = ("add", n("w"), n("wa"))
        self.unfit(self.made(("call", "twice", (late,), None), 4), "m", 0, "clock", late)
        self.unfit(self.made(("call", "twice", (n("wa"),), None), 4, bound=True), "m", 0, "clock", n("wa"))
        when = ("when", n("w"), "a", 1)
        self.unfit(self.made(("call", "twice", (when,), None), 4, bound=True), "m", 0, "clock", when)

    def test_clocks_that_fit_together(self):
        self.comes(("call", "plus", (n("wa"), lit(4, 1)), None), 4, clock=(A,))
        self.comes(("call", "plus", (n("wa"), n("wa")), "b"), 4, clock=(A,))
        self.comes(("call", "twice", (lit(4, 1),), "b"), 4, clock=(A,))
        self.comes(("call", "twice", (lit(4, 1),), None), 4, clock=None)
        self.comes(("call", "twice", (("when", n("w"), "a", 0),), "ea"), 4, clock=(("a", 0),))

    def test_clocks_that_do_not(self):
        for right in (("call", "plus", (n("wa"), n("w")), None), ("call", "plus", (n("w"), n("w")), "b"),
                      ("call", "plus", (n("wa"), lit(4, 1)), "a"), ("call", "plus", (n("wa"), n("wa")), "ea")):
            self.unfit(self.made(right, 4), "m", 0, "clock", right)
        # In a state every is of the node's clock, too.
        right = ("call", "twice", (lit(4, 1),), "b")
        self.unfit(self.made(right, 4, bound=True), "m", 0, "clock", right)

    def test_a_node_with_clocks_is_called_by_none(self):
        clocked = node("m", [("a", 1), ("b", 4, (A,))], [("x", 4)], [], let("x", lit(4, 1)))
        told = node("m", [("a", 1)], [("x", 4), ("y", 4, (A,))], [], let("x", lit(4, 1)), let("y", lit(4, 1)))
        inner = node("m", [("a", 1)], [("x", 4)], [("y", 4, (A,))], let("x", lit(4, 1)), let("y", lit(4, 1)))
        one = node("user", [("a", 1), ("w", 4)], [("x", 4)], [], let("x", ("call", "m", (n("a"), n("w")), None)))
        two = node("user", [("a", 1)], [("x", 4), ("y", 4)], [], let("x y", ("call", "m", (n("a"),), None)))
        three = node("user", [("a", 1)], [("x", 4)], [], let("x", ("call", "m", (n("a"),), None)))
        self.unfit([clocked, one], "user", 0, "clock", "m", main="m")
        self.unfit([told, two], "user", 0, "clock", "m", main="m")
        Program([inner, three], main="m")

    def test_what_comes_fits_the_names(self):
        self.misfits(("call", "twice", (n("w"),), None), "kind", "x", 2)
        self.misfits(("call", "cross", (n("w"), n("w")), None), "kind", "y", 4, 8)
        self.unfit(self.made(("call", "twice", (n("wa"),), None), 4), "m", 0, "clock", "x")
        self.unfit(self.made(("call", "twice", (n("w"),), None), 4, clock=(A,)), "m", 0, "clock", "x")
        self.unfit(self.made(("call", "cross", (n("w"), n("wa")), None), 4, 8), "m", 0, "clock",
                   ("call", "cross", (n("w"), n("wa")), None))

    def test_which_goes_of_two(self):
        bad = ("add", n("w"), n("v"))
        late = ("add", n("w"), n("wa"))
        self.misfits(("call", "none", (bad,), "w"), "unknown", "none")
        self.misfits(("call", "plus", (bad,), "none"), "unknown", "none")
        self.misfits(("call", "plus", (bad,), "w"), "kind", "w")
        self.misfits(("call", "plus", (bad,), None), "kind", bad)
        # Each term by kinds and clocks ahead of the next one.
        self.unfit(self.made(("call", "plus", (late, bad), None), 4), "m", 0, "clock", late)
        self.misfits(("call", "plus", (n("v"),), None), "many", "plus")
        self.unfit(self.made(("call", "plus", (n("wa"), n("v")), "a"), 4), "m", 0, "kind", n("v"))
        right = ("call", "plus", (n("wa"), n("w")), None)
        self.unfit(self.made(right, 2), "m", 0, "clock", right)


class Maps(CallCase):
    def test_what_comes(self):
        self.comes(("map", "twice", (n("r"),), None), (3, 4))
        self.comes(("map", "plus", (n("s"), lit((2, 4), (1, 2))), "a"), (2, 4))
        self.comes(("map", "cross", (n("q"), n("q")), None), (4, 4), (4, 4))
        self.comes(("map", "less", (n("r"), n("r")), None), (3, 1))
        self.comes(("map", "mixed", (n("r"), n("t")), None), (3, 4))
        self.comes(("map", "twice", (n("ra"),), "b"), (3, 4), clock=(A,))
        self.comes(("map", "twice", (lit((2, 4), (1, 2)),), None), (2, 4), clock=None)

    def test_args_that_are_no_such_rows(self):
        kind = (3, 4)
        self.misfits(("map", "twice", (n("w"),), None), "kind", n("w"), kind)
        self.misfits(("map", "twice", (n("t"),), None), "kind", n("t"), kind)
        self.misfits(("map", "plus", (n("r"), n("s")), None), "kind", n("s"), kind)
        self.misfits(("map", "plus", (n("s"), n("r")), None), "kind", n("r"), kind)
        self.misfits(("map", "plus", (n("r"), n("w")), None), "kind", n("w"), kind)
        self.misfits(("map", "mixed", (n("r"), n("r")), None), "kind", n("r"), kind)
        self.misfits(("map", "rowed", (n("r"),), None), "kind", n("r"), kind)

    def test_outs_are_widths(self):
        self.misfits(("map", "torow", (n("r"),), None), "kind", "torow", (3, 4))
        self.misfits(("map", "torow", (n("w"),), None), "kind", n("w"), (3, 4))
        # One out that is a row is enough, wherever it stands.
        for outs in ([("o", 4), ("l", (2, 4))], [("l", (2, 4)), ("o", 4)]):
            self.ahead = [node("half", [("p", 4)], outs, [], let("o", n("p")), let("l", ("row", (n("p"), n("p")))))]
            kinds = [(3, flow[1]) if flow[0] == "o" else (3, 1) for flow in outs]
            self.misfits(("map", "half", (n("r"),), None), "kind", "half", *kinds)

    def test_as_many(self):
        self.misfits(("map", "plus", (n("r"),), None), "many", "plus", (3, 4))
        self.misfits(("map", "twice", (n("r"), n("r")), None), "many", "twice", (3, 4))
        self.misfits(("map", "cross", (n("r"), n("r")), None), "many", "cross", (3, 4))

    def test_what_comes_fits_the_names(self):
        for kind in (4, (2, 4), (3, 1), (4, 4)):
            self.misfits(("map", "twice", (n("r"),), None), "kind", "x", kind)
        late = ("map", "plus", (n("r"), n("ra")), None)
        self.unfit(self.made(late, (3, 4)), "m", 0, "clock", late)


class Folds(CallCase):
    ahead = MORE

    def test_what_comes(self):
        self.comes(("fold", "plus", n("w"), (n("r"),), None), 4)
        self.comes(("fold", "plus", lit(4, 0), (n("q"),), "a"), 4)
        self.comes(("fold", "plus", lit(4, 0), (lit((2, 4), (1, 2)),), None), 4, clock=None)
        self.comes(("fold", "plus", n("wa"), (n("ra"),), "b"), 4, clock=(A,))

    def test_the_start(self):
        self.misfits(("fold", "plus", n("v"), (n("r"),), None), "kind", n("v"))
        self.misfits(("fold", "plus", n("r"), (n("r"),), None), "kind", n("r"))
        # Where the first in is a row, no start is of its kind.
        self.misfits(("fold", "started", n("r"), (n("r"),), None), "kind", n("r"), (3, 4))
        self.misfits(("fold", "started", n("w"), (n("r"),), None), "kind", n("w"), (3, 4))

    def test_the_rows(self):
        self.misfits(("fold", "plus", n("w"), (n("w"),), None), "kind", n("w"))
        self.misfits(("fold", "plus", n("w"), (n("t"),), None), "kind", n("t"))
        self.misfits(("fold", "rowin", n("w"), (n("r"),), None), "kind", n("r"))
        three = node("three", [("p", 4), ("o", 4), ("k", 4)], [("l", 4)], [], let("l", n("p")))
        self.unfit([three, *self.made(("fold", "three", n("w"), (n("r"), n("s")), None), 4)], "m", 0, "kind", n("s"))
        Program([three, *self.made(("fold", "three", n("w"), (n("r"), n("r")), None), 4)])

    def test_the_one_out(self):
        self.misfits(("fold", "wider", n("w"), (n("r"),), None), "kind", "wider", 8)
        self.misfits(("fold", "cross", n("w"), (n("r"),), None), "many", "cross", 4)
        self.misfits(("fold", "cross", n("w"), (n("r"),), None), "many", "cross", 4, 4)
        self.misfits(("fold", "plus", n("w"), (n("r"),), None), "many", "plus", 4, 4)

    def test_as_many(self):
        self.misfits(("fold", "plus", n("w"), (n("r"), n("r")), None), "many", "plus")
        self.misfits(("fold", "twice", n("w"), (n("r"),), None), "many", "twice")
        self.misfits(("fold", "lone", n("w"), (n("r"),), None), "many", "lone")

    def test_the_start_ahead_of_the_rows(self):
        self.misfits(("fold", "plus", n("none"), (n("gone"),), None), "unknown", "none")
        self.misfits(("fold", "plus", n("v"), (n("w"),), None), "kind", n("v"))
        self.misfits(("fold", "wider", n("w"), (n("s"),), None), "kind", "wider", 4)
        late = ("fold", "plus", n("w"), (n("ra"),), None)
        self.unfit(self.made(late, 4), "m", 0, "clock", late)

    def test_clock_of_the_node_behind_kinds(self):
        clocked = node("m", [("a", 1), ("p", 4, (A,))], [("x", 8)], [], let("x", lit(8, 1)))
        user = node("user", [("w", 4), ("a", 1)], [("x", 4)], [], let("x", ("call", "m", (n("a"), n("a")), None)))
        self.unfit([clocked, user], "user", 0, "kind", n("a"), main="m")


class Pairs(CallCase):
    def test_what_comes(self):
        self.comes(("pairs", "plus", n("r"), None), (2, 4))
        self.comes(("pairs", "plus", n("q"), "a"), (3, 4))
        self.comes(("pairs", "less", n("q"), None), (3, 1))
        self.comes(("pairs", "plus", n("ra"), "b"), (2, 4), clock=(A,))
        self.comes(("pairs", "plus", lit((3, 4), (1, 2, 3)), None), (2, 4), clock=None)

    def test_the_row(self):
        for name in ("s", "t", "w"):
            self.misfits(("pairs", "plus", n(name), None), "kind", n(name), (2, 4))
        self.misfits(("pairs", "mixed", n("r"), None), "kind", n("r"), (2, 4))
        self.misfits(("pairs", "mixed", n("t"), None), "kind", n("t"), (2, 4))

    def test_as_many(self):
        self.misfits(("pairs", "twice", n("r"), None), "many", "twice", (2, 4))
        self.misfits(("pairs", "small", n("r"), None), "many", "small", (2, 4))
        self.misfits(("pairs", "cross", n("r"), None), "many", "cross", (2, 4))
        self.misfits(("pairs", "cross", n("r"), None), "many", "cross", (2, 4), (2, 4))
        self.misfits(("pairs", "plus", n("r"), None), "many", "plus", (2, 4), (2, 4))

    def test_the_out_is_a_width(self):
        rows = node("rows", [("p", 4), ("o", 4)], [("l", (2, 4))], [], let("l", ("row", (n("p"), n("o")))))
        right = ("pairs", "rows", n("r"), None)
        self.ahead = [rows]
        self.misfits(right, "kind", "rows", (2, 4))

    def test_what_comes_fits_the_name(self):
        for kind in (4, (3, 4), (2, 1)):
            self.misfits(("pairs", "plus", n("r"), None), "kind", "x", kind)
        right = ("pairs", "plus", n("r"), "b")
        self.unfit(self.made(right, (2, 4)), "m", 0, "clock", right)


if __name__ == "__main__":
    import unittest
    unittest.main()
