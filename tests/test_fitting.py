"""Promises 23, 24 and 26: the kinds and clocks of terms, and whether what comes fits the let's names."""

from beatflows.programs import Program
from tests.helper import RefusalCase
from tests.nodes import block, last, let, lit, n, node, state

A = ("a", 1)
SOME = [("a", 1), ("b", 1, (A,)), ("c", 1, (A, ("b", 1))), ("d", 1, (A, ("b", 1), ("c", 1))), ("w", 4), ("v", 2),
        ("r", (3, 4)), ("t", (2, 1)), ("wa", 4, (A,)), ("za", 4, (("a", 0),)), ("wb", 4, (A, ("b", 1))), ("e", 1)]


def with_out(kind, clock, right):
    return [node("m", SOME, [("x", kind, clock)], [], let("x", right))]


def in_state(kind, right):
    return [node("m", SOME, [("x", kind)], [], block(state("s", [let("x", right)])))]


class Kinds(RefusalCase):
    def comes(self, kind, term):
        program = Program(with_out(kind, (), term))
        self.assertEqual(program.kinds_at("m", 0), [kind])
        # Of any other kind it doesn't fit the name.
        for other in (1, 2, 4, 8, (2, 1), (3, 4), (2, 4)):
            if other != kind:
                self.unfit(with_out(other, (), term), "m", 0, "kind", "x")

    def misfits(self, term, found=None):
        found = term if found is None else found
        for kind in (1, 4):
            self.unfit(with_out(kind, (), term), "m", 0, "kind", found)
        self.unfit(with_out(4, (), ("wide", 4, ("pick", n("a"), n("w"), term))), "m", 0, "kind", found)

    def test_lit_name_and_last(self):
        for kind, worth in ((1, 1), (4, 9), ((3, 4), (1, 2, 3)), ((2, 1), (0, 1))):
            self.comes(kind, lit(kind, worth))
        for name, kind in (("a", 1), ("w", 4), ("r", (3, 4)), ("t", (2, 1))):
            self.comes(kind, n(name))
            self.comes(kind, last(name))

    def test_words_of_one_part(self):
        self.comes(4, ("not", n("w")))
        self.comes(1, ("not", n("a")))
        self.comes(8, ("wide", 8, n("w")))
        self.comes(1, ("wide", 1, n("w")))
        self.comes(1, ("bit", 3, n("w")))
        self.comes(1, ("bit", 0, n("a")))
        for term in (("not", n("r")), ("wide", 4, n("r")), ("bit", 0, n("r")), ("bit", 1, n("a")), ("bit", 4, n("w")),
                     ("bit", 7, n("w"))):
            self.misfits(term)

    def test_words_of_two_parts(self):
        for word in ("and", "or", "xor", "add", "sub"):
            self.comes(4, (word, n("w"), lit(4, 3)))
            self.comes(1, (word, n("a"), lit(1, 1)))
        for word in ("less", "same"):
            self.comes(1, (word, n("w"), lit(4, 3)))
        for word in ("and", "or", "xor", "add", "sub", "less", "same"):
            self.misfits((word, n("w"), n("v")))
            self.misfits((word, n("a"), n("w")))
            self.misfits((word, n("r"), n("r")))
            self.misfits((word, n("t"), n("a")))
            self.misfits((word, n("a"), n("t")))

    def test_pick(self):
        self.comes(4, ("pick", n("a"), n("w"), lit(4, 0)))
        self.comes((3, 4), ("pick", n("a"), n("r"), last("r")))
        for term in (("pick", n("w"), n("w"), n("w")), ("pick", n("t"), n("w"), n("w")), ("pick", n("a"), n("w"), n("v")),
                     ("pick", n("a"), n("r"), n("t")), ("pick", n("a"), n("a"), n("w"))):
            self.misfits(term)

    def test_first_and_merge(self):
        self.comes(4, ("first", lit(4, 1), n("w")))
        self.comes((2, 1), ("first", n("t"), last("t")))
        self.comes(4, ("merge", "a", lit(4, 1), lit(4, 2)))
        self.comes((2, 1), ("merge", "a", lit((2, 1), (0, 1)), lit((2, 1), (1, 1))))
        for term in (("first", n("w"), n("v")), ("first", n("r"), n("t")), ("first", n("w"), n("r")),
                     ("merge", "a", lit(4, 1), lit(2, 1)), ("merge", "w", lit(4, 1), lit(4, 1)),
                     ("merge", "t", lit(1, 1), lit(1, 1)), ("merge", "a", lit((2, 4), (1, 2)), lit((3, 4), (1, 2, 3)))):
            self.misfits(term)

    def test_when(self):
        clock = (A,)
        for kind, term in ((4, n("w")), ((3, 4), n("r")), (1, lit(1, 0))):
            self.assertEqual(Program(with_out(kind, clock, ("when", term, "a", 1))).kinds_at("m", 0), [kind])
        for name in ("w", "v", "r", "t"):
            self.misfits(("when", n("a"), name, 1))

    def test_row_and_at(self):
        self.comes((2, 4), ("row", (n("w"), lit(4, 1))))
        self.comes((4, 1), ("row", (n("a"), n("e"), lit(1, 1), ("bit", 0, n("w")))))
        self.comes(4, ("at", 2, n("r")))
        self.comes(4, ("at", 0, n("r")))
        self.comes(1, ("at", 1, n("t")))
        for term in (("row", (n("w"), n("v"))), ("row", (n("r"), n("r"))), ("row", (n("w"), n("w"), n("a"))),
                     ("row", (n("w"), n("t"))), ("at", 0, n("w")), ("at", 3, n("r")), ("at", 2, n("t"))):
            self.misfits(term)

    def test_unknown_names(self):
        for term in (n("q"), last("q"), ("when", n("a"), "q", 1), ("merge", "q", n("a"), n("a")), ("not", n("q")),
                     ("pick", n("a"), n("a"), ("first", n("a"), last("q")))):
            self.unfit(with_out(1, (), term), "m", 0, "unknown", "q")
            self.unfit(in_state(1, term), "m", 0, "unknown", "q")

    def test_each_part_ahead_of_what_it_is_a_part_of(self):
        bad = ("not", n("r"))
        self.misfits(("add", n("w"), bad), bad)
        self.misfits(("add", bad, ("add", n("w"), n("v"))), bad)
        self.unfit(with_out(1, (), ("when", bad, "q", 1)), "m", 0, "kind", bad)
        self.unfit(with_out(1, (), ("merge", "q", n("a"), bad)), "m", 0, "kind", bad)
        self.unfit(with_out(1, (), ("add", bad, n("q"))), "m", 0, "kind", bad)
        self.unfit(with_out(1, (), ("add", n("q"), bad)), "m", 0, "unknown", "q")
        self.unfit(with_out(1, (), ("merge", "q", n("a"), n("w"))), "m", 0, "unknown", "q")

    def test_what_is_found_is_the_very_part(self):
        bad = ("add", n("w"), n("v"))
        try:
            Program(with_out(4, (), ("not", bad)))
        except ValueError as refusal:
            self.assertIs(refusal.found, bad)


class Clocks(RefusalCase):
    def comes(self, clock, term, kind=4):
        program = Program(with_out(kind, () if clock is None else clock, term))
        self.assertEqual(program.clock_at("m", 0), clock)
        if clock is None:
            # What may be of any fits each name.
            for other in ((A,), (("a", 0),), (A, ("b", 1))):
                self.assertIsNone(Program(with_out(kind, other, term)).clock_at("m", 0))
        else:
            for other in ((), (A,), (("a", 0),), (A, ("b", 1)), (A, ("b", 0))):
                if other != clock:
                    self.unfit(with_out(kind, other, term), "m", 0, "clock", "x")

    def misfits(self, term, found=None, kind=4):
        for clock in ((), (A,)):
            self.unfit(with_out(kind, clock, term), "m", 0, "clock", term if found is None else found)

    def test_leaves(self):
        self.comes(None, lit(4, 1))
        for name, clock in (("w", ()), ("wa", (A,)), ("za", (("a", 0),)), ("wb", (A, ("b", 1)))):
            self.comes(clock, n(name))
            self.comes(clock, last(name))

    def test_parts_that_are_alike_or_may_be_any(self):
        self.comes(None, ("add", lit(4, 1), ("not", lit(4, 2))))
        self.comes((A,), ("add", n("wa"), lit(4, 1)))
        self.comes((A,), ("add", lit(4, 1), n("wa")))
        self.comes((), ("first", last("w"), n("w")))
        self.comes((A, ("b", 1)), ("pick", lit(1, 0), lit(4, 1), n("wb")))
        self.comes((A,), ("row", (lit(4, 1), n("wa"), last("wa"))), (3, 4))
        self.comes((), ("wide", 4, ("bit", 0, ("at", 1, n("r")))))

    def test_parts_that_are_not_alike(self):
        for one, other in (("w", "wa"), ("wa", "za"), ("wa", "wb"), ("wb", "w")):
            for word in ("add", "and", "first"):
                self.misfits((word, n(one), n(other)))
            self.misfits(("pick", lit(1, 1), n(one), last(other)))
            self.misfits(("row", (lit(4, 1), n(one), n(other))), kind=(3, 4))
        self.misfits(("pick", n("a"), n("wa"), n("wa")))
        self.misfits(("add", n("w"), ("first", n("wa"), n("w"))), ("first", n("wa"), n("w")))

    def test_when(self):
        self.comes((A,), ("when", n("w"), "a", 1))
        self.comes((("a", 0),), ("when", n("w"), "a", 0))
        self.comes((A, ("b", 1)), ("when", n("wa"), "b", 1))
        self.comes((A, ("b", 0)), ("when", lit(4, 1), "b", 0))
        self.comes((A,), ("when", lit(4, 1), "a", 1))
        three = (A, ("b", 1), ("c", 0))
        self.assertEqual(Program(with_out(4, three, ("when", n("wb"), "c", 0))).clock_at("m", 0), three)
        for term in (("when", n("wa"), "a", 1), ("when", n("w"), "b", 1), ("when", n("za"), "b", 1), ("when", n("wb"), "b", 1)):
            self.misfits(term)

    def test_when_of_more_than_two_conditions(self):
        self.misfits(("when", lit(4, 1), "d", 1))
        self.misfits(("when", n("d"), "d", 0), kind=1)

    def test_merge(self):
        self.comes((), ("merge", "a", n("wa"), n("za")))
        self.comes((), ("merge", "a", lit(4, 1), n("za")))
        self.comes((), ("merge", "a", n("wa"), lit(4, 1)))
        self.comes((), ("merge", "a", lit(4, 0), lit(4, 1)))
        self.comes((A,), ("merge", "b", n("wb"), lit(4, 1)))
        self.comes((A,), ("merge", "b", n("wb"), ("when", n("wa"), "b", 0)))
        for term in (("merge", "a", n("za"), n("wa")), ("merge", "a", n("w"), n("w")), ("merge", "a", n("wa"), n("wa")),
                     ("merge", "a", n("w"), n("za")), ("merge", "e", n("wa"), n("za")), ("merge", "b", n("wa"), lit(4, 1))):
            self.misfits(term)

    def test_merge_of_three_conditions(self):
        three = (A, ("b", 1), ("c", 1))
        program = Program(with_out(1, three, ("merge", "d", lit(1, 0), lit(1, 1))))
        self.assertEqual(program.clock_at("m", 0), three)

    def test_kinds_of_the_whole_ahead_of_its_clocks(self):
        bad = ("add", n("w"), n("wa"))
        for kind, found in ((("not", n("r")), ("not", n("r"))), (("add", n("w"), n("v")), ("add", n("w"), n("v")))):
            self.unfit(with_out(4, (), ("add", bad, kind)), "m", 0, "kind", found)
        self.unfit(with_out(4, (), ("add", bad, n("q"))), "m", 0, "unknown", "q")
        # What comes is looked at behind both.
        self.unfit(with_out(1, (), bad), "m", 0, "clock", bad)
        self.unfit(with_out(1, (A,), n("w")), "m", 0, "kind", "x")

    def test_each_part_ahead_of_what_it_is_a_part_of(self):
        bad = ("add", n("w"), n("wa"))
        self.misfits(("add", bad, ("add", n("wa"), n("za"))), bad)
        self.misfits(("when", bad, "b", 1), bad)
        self.misfits(("add", ("add", n("wa"), n("za")), bad), ("add", n("wa"), n("za")))


class InStates(RefusalCase):
    def test_terms_of_the_clock_of_the_node(self):
        for term in (n("w"), last("w"), lit(4, 1), ("add", n("w"), lit(4, 1)), ("first", lit(4, 1), last("x"))):
            Program(in_state(4, term))

    def test_no_when_no_merge_no_other_clock(self):
        when = ("when", n("w"), "a", 1)
        merge = ("merge", "a", n("wa"), n("za"))
        for term, found in ((when, when), (merge, n("wa")), (("merge", "a", lit(4, 1), lit(4, 2)),) * 2,
                            (("merge", "a", when, lit(4, 1)), when), (n("wa"), n("wa")), (last("wa"), last("wa")),
                            (("not", n("za")), n("za")), (("add", n("w"), n("wa")), n("wa"))):
            self.unfit(in_state(4, term), "m", 0, "clock", found)

    def test_kinds_ahead_of_that(self):
        bad = ("add", n("wa"), n("v"))
        self.unfit(in_state(4, bad), "m", 0, "kind", bad)
        self.unfit(in_state(1, n("wa")), "m", 0, "clock", n("wa"))


if __name__ == "__main__":
    import unittest
    unittest.main()
