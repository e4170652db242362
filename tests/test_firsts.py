"""Promises 34, 35 and 36: first worths, and good programs."""

from beatflows.errors import Bare, FlowError, Missing, NoProgram, NotThere, Ringed
from beatflows.firsts import bare_of, need_good, sets
from beatflows.programs import Program
from tests.helper import RefusalCase, any_things
from tests.nodes import CROSS, PLUS, SUM, TWICE, block, last, let, lit, n, node, program, state

A = ("a", 1)
SOME = [("a", 1), ("w", 4), ("r", (3, 4))]
RINGED = node("m", SOME, [("x", 4)], [], let("x", n("x")))
LATE = last("z")
LATER = ("add", last("y"), lit(4, 1))


class FirstsCase(RefusalCase):
    def of(self, *lets, outs=(("x", 4),), inner=(), some=SOME):
        """A program of these lets; z is set from its second beat on, y perhaps never."""
        inner = [*inner, ("y", 4), ("z", 4), ("k", 4, (), 3)]
        more = [let("y", last("z")), let("z", last("w")), let("k", n("w"))]
        return program(TWICE, PLUS, CROSS, node("m", some, outs, inner, *lets, *more))


class Sets(FirstsCase):
    def level(self, awaited, right, kind=4, first=None):
        one = self.of(let("x", lit(4, 0)), let("p", right), inner=[("p", kind, (), first)])
        self.assertEqual(sets(one, "m")["p"], awaited, right)

    def test_of_all_flows_in_order(self):
        told = sets(self.of(let("x", n("w"))), "m")
        self.assertEqual(list(told.items()), [("a", 0), ("w", 0), ("r", 0), ("x", 0), ("y", 2), ("z", 1), ("k", 0)])

    def test_leaves(self):
        self.level(0, lit(4, 1))
        self.level(0, n("w"))
        self.level(1, n("z"))
        self.level(2, n("y"))

    def test_last(self):
        self.level(1, last("w"))
        self.level(0, last("k"))
        self.level(2, last("z"))
        self.level(2, last("y"))
        # Of its own last worth it lacks ever more.
        self.level(2, last("p"))
        self.level(0, last("p"), first=0)
        self.level(0, last("p"), first=7)
        self.level(2, ("add", last("w"), last("p")))
        # A first of its own doesn't help a flow that lacks otherwise.
        self.level(2, ("add", last("w"), last("p")), first=3)

    def test_a_first_of_noughts_is_one(self):
        self.level(0, last("p"), (2, 1), (0, 0))
        self.level(2, last("p"), (2, 1))

    def test_first(self):
        for one, other, awaited in (
            ("w", "w", 0), ("z", "w", 1), ("y", "w", 1), ("w", "z", 0), ("z", "z", 1), ("y", "z", 1),
            ("w", "y", 2), ("z", "y", 2), ("y", "y", 2),
        ):
            self.level(awaited, ("first", n(one), n(other)))
        self.level(0, ("first", lit(4, 1), ("add", last("p"), lit(4, 1))))

    def test_merge(self):
        for one, other, awaited in (("w", "w", 0), ("z", "w", 2), ("w", "z", 2), ("y", "w", 2), ("w", "y", 2), ("z", "z", 2)):
            self.level(awaited, ("merge", "a", ("when", n(one), "a", 1), ("when", n(other), "a", 0)))

    def test_all_others_the_greatest_of_their_parts(self):
        for one, other, awaited in (("w", "w", 0), ("z", "w", 1), ("w", "z", 1), ("y", "z", 2), ("z", "y", 2), ("w", "y", 2)):
            for word in ("and", "or", "xor", "add", "sub"):
                self.level(awaited, (word, n(one), n(other)))
            for word in ("less", "same"):
                self.level(awaited, (word, n(one), n(other)), 1)
            self.level(awaited, ("row", (n(one), n(other))), (2, 4))
            self.level(awaited, ("at", 0, ("row", (n(one), n(other)))))
            self.level(awaited, ("pick", n("a"), n(one), n(other)))
            self.level(awaited, ("pick", ("bit", 0, n(one)), n("w"), n(other)))
        for name, awaited in (("w", 0), ("z", 1), ("y", 2)):
            self.level(awaited, ("not", n(name)))
            self.level(awaited, ("wide", 4, n(name)))
            self.level(awaited, ("bit", 2, n(name)), 1)

    def test_when(self):
        for name, awaited in (("w", 0), ("z", 1), ("y", 2)):
            one = self.of(let("x", lit(4, 0)), let("p", ("when", n(name), "a", 1)), inner=[("p", 4, (A,))])
            self.assertEqual(sets(one, "m")["p"], awaited)

    def test_what_a_call_or_a_loop_tells(self):
        for right, kind in ((("call", "twice", (n("y"),), None), 4), (("map", "twice", (n("r"),), None), (3, 4)),
                            (("fold", "plus", n("y"), (n("r"),), None), 4), (("pairs", "plus", n("r"), None), (2, 4))):
            self.level(0, right, kind)

    def test_flows_of_a_block(self):
        for terms, awaited in (((n("w"), n("w")), 0), ((n("w"), n("z")), 2), ((n("z"), n("w")), 2), ((n("y"), n("w")), 2),
                               ((n("w"), ("call", "twice", (n("w"),), None)), 0)):
            states = [state("st"[at], [let("p", term), let("q", n("w"))]) for at, term in enumerate(terms)]
            one = self.of(let("x", lit(4, 0)), block(*states), inner=[("p", 4), ("q", 4)])
            self.assertEqual([sets(one, "m")[name] for name in "pq"], [awaited, 0])

    def test_the_least_that_fits(self):
        one = self.of(let("x", ("first", lit(4, 0), n("p"))), let("p", ("first", lit(4, 0), last("x"))),
                      inner=[("p", 4)])
        self.assertEqual([sets(one, "m")[name] for name in "xp"], [0, 0])

    def test_through_many_flows(self):
        names = "bcdefghij"
        lets = [let(names[at], last(names[at - 1])) for at in range(1, len(names))]
        one = self.of(let("x", lit(4, 0)), *lets[::-1], let("b", n("w")), inner=[(name, 4) for name in names])
        self.assertEqual([sets(one, "m")[name] for name in names], [0, 1] + [2] * 7)

    def test_told_dicts_are_new(self):
        one = self.of(let("x", n("w")))
        sets(one, "m").clear()
        self.assertEqual(len(sets(program=one, node="m")), 7)

    def test_refusals(self):
        one = program(TWICE)
        for thing in any_things():
            if not isinstance(thing, Program):
                self.refused(FlowError, NoProgram, thing, sets, thing, 1)
            self.refused(Missing, NotThere, thing, sets, one, thing)
        self.refused(Missing, NotThere, "n", sets, program(RINGED), "n")
        fields = {"where": "m", "ring": ["x"]}
        self.refused_fields(FlowError, Ringed, fields, sets, program(TWICE, RINGED), "twice")


class Lacks(FirstsCase):
    def lacks(self, awaited, *lets, **more):
        one = self.of(*lets, **more)
        found = bare_of(one)
        self.assertEqual(found, None if awaited is None else ("m", *awaited))
        if awaited is None:
            self.assertIsNone(need_good(one))
        else:
            self.assertIsInstance(found, tuple)
            fields = {"where": "m", "at": awaited[0], "found": awaited[1]}
            self.refused_fields(FlowError, Bare, fields, need_good, program=one)

    def setUp(self):
        # What the flow y has by itself lacks: here it stands for no flow of a node.
        self.more = [let("k", n("w"))]

    def of(self, *lets, outs=(("x", 4),), inner=(), some=SOME):
        inner = [*inner, ("z", 4), ("k", 4, (), 3)]
        return program(TWICE, PLUS, CROSS, node("m", some, outs, inner, *lets, let("z", last("w")), *self.more))

    def test_nothing(self):
        self.lacks(None, let("x", n("w")))
        self.lacks(None, let("x", ("first", lit(4, 0), n("z"))))
        self.lacks(None, let("x", last("k")))

    def test_outs(self):
        self.lacks((0, "x"), let("x", n("z")))
        self.lacks((0, "x"), let("x", last("w")))
        self.lacks((0, "x"), let("x", last("w")), outs=[("x", 4, (), 0)])

    def test_other_flows_may_lack_at_the_first_beat(self):
        self.lacks(None, let("x", lit(4, 0)), let("p", n("z")), inner=[("p", 4)])
        self.lacks((1, "p"), let("x", lit(4, 0)), let("p", last("z")), inner=[("p", 4)])
        self.lacks((1, "p"), let("x", lit(4, 0)), let("p", ("first", n("z"), last("z"))), inner=[("p", 4)])

    def test_flows_in_clocks(self):
        inner = [("p", 1), ("q", 4, (("p", 1),))]
        self.lacks((1, "p"), let("x", lit(4, 0)), let("p", last("a")), let("q", lit(4, 0)), inner=inner)
        self.lacks(None, let("x", lit(4, 0)), let("p", ("not", n("a"))), let("q", lit(4, 0)), inner=inner)
        outs = [("x", 4, (("p", 0),)), ("p", 1)]
        self.lacks((1, "p"), let("x", lit(4, 0)), let("p", last("a")), outs=outs)

    def test_x_of_when_and_merge(self):
        inner = [("p", 1), ("q", 4), ("s", 4, (("p", 1),))]
        self.lacks((1, "p"), let("x", lit(4, 0)), let("p", last("a")), let("q", ("merge", "p", lit(4, 0), lit(4, 1))),
                   inner=inner[:2])
        self.lacks((2, "p"), let("x", lit(4, 0)),
                   let("q", ("merge", "p", ("when", lit(4, 0), "p", 1), lit(4, 1))), let("p", last("a")), inner=inner[:2])
        # In an arg, too, and where they stand deep.
        self.lacks((2, "p"), let("x", lit(4, 0)), let("q", ("call", "twice", (("not", ("merge", "p", lit(4, 0), lit(4, 1))),), None)),
                   let("p", last("a")), inner=inner[:2])

    def test_x_of_when_alone(self):
        # A flow that no clock names, for it is silent nowhere but within a term.
        one = ("merge", "p", ("when", n("w"), "p", 1), ("when", n("w"), "p", 0))
        self.lacks((1, "p"), let("x", one), let("p", last("a")), inner=[("p", 1)])

    def test_every(self):
        for word, right, kind in (("call", ("twice", (n("w"),)), 4), ("map", ("twice", (n("r"),)), (3, 4)),
                                  ("fold", ("plus", n("w"), (n("r"),)), 4), ("pairs", ("plus", n("r")), (2, 4))):
            inner = [("p", 1), ("q", kind)]
            self.lacks((2, "p"), let("x", lit(4, 0)), let("q", (word, *right, "p")), let("p", last("a")), inner=inner)
            self.lacks(None, let("x", lit(4, 0)), let("q", (word, *right, "p")), let("p", n("a")), inner=inner)

    def test_args_and_starts(self):
        bad = ("row", (n("w"), n("w"), n("z")))
        inner = [("q", 4)]
        self.lacks((1, "q"), let("x", lit(4, 0)), let("q", ("call", "twice", (n("z"),), None)), inner=inner)
        self.lacks((1, "q"), let("x", lit(4, 0)), let("q", ("call", "plus", (n("w"), last("w")), None)), inner=inner)
        self.lacks((1, "q"), let("x", lit(4, 0)), let("q", ("map", "twice", (bad,), None)), inner=[("q", (3, 4))])
        self.lacks((1, "q"), let("x", lit(4, 0)), let("q", ("fold", "plus", n("z"), (n("r"),), None)), inner=inner)
        self.lacks((1, "q"), let("x", lit(4, 0)), let("q", ("fold", "plus", n("w"), (bad,), None)), inner=inner)
        self.lacks((1, "q"), let("x", lit(4, 0)), let("q", ("pairs", "plus", bad, None)), inner=[("q", (2, 4))])
        self.lacks((1, "q"), let("x", lit(4, 0)), let("q p", ("call", "cross", (n("w"), n("z")), None)),
                   inner=[("p", 4), ("q", 4)])

    def test_flows_of_a_block(self):
        good, bad = let("p", n("w")), let("p", n("z"))
        for lets, at in (((good, bad), 1), ((bad, good), 1), ((bad, bad), 1), ((good, good), None)):
            one = block(*[state("st"[number], [own]) for number, own in enumerate(lets)])
            self.lacks(at and (at, "p"), let("x", lit(4, 0)), one, inner=[("p", 4)])

    def test_conditions(self):
        good, bad = (("bit", 0, n("w")), "s", 0), (("bit", 0, n("z")), "s", 0)
        p = [let("p", n("w"))]
        for states, name in (
            ((state("s", p, [bad]), state("t", p)), "s"), ((state("s", p, [good]), state("t", p, [good, bad])), "t"),
            ((state("s", p, [], [bad]), state("t", p, [bad])), "s"), ((state("s", p, [], [good]), state("t", p, [], [bad])), "t"),
            ((state("s", p, [], [good]), state("t", p, [good])), None),
        ):
            self.lacks(name and (-1, name), let("x", lit(4, 0)), block(*states), inner=[("p", 4)])

    def test_conditions_block_by_block(self):
        bad = (("bit", 0, n("z")), "s", 0)
        one = block(state("s", [let("p", n("w"))], [], []))
        two = block(state("s", [let("q", n("w"))], [bad]))
        three = block(state("v", [let("u", n("w"))], [(bad[0], "v", 0)]))
        inner = [("p", 4), ("q", 4), ("u", 4)]
        self.lacks((-1, "s"), let("x", lit(4, 0)), one, two, three, inner=inner)
        self.lacks((-1, "v"), let("x", lit(4, 0)), one, three, two, inner=inner)

    def test_lets_ahead_of_conditions(self):
        bad = (("bit", 0, n("z")), "s", 0)
        one = block(state("s", [let("p", n("w"))], [bad]))
        self.lacks((1, "x"), one, let("x", n("z")), inner=[("p", 4)])

    def test_the_first_let_and_its_first_name(self):
        inner = [("p", 4), ("q", 4), ("s", 1)]
        pair = ("call", "cross", (n("w"), n("z")), "s")
        self.lacks((0, "s"), let("s", last("a")), let("q p", pair), let("x", n("z")), inner=inner)
        self.lacks((0, "q"), let("q p", pair), let("x", n("z")), let("s", n("a")), inner=inner)
        self.lacks((0, "x"), let("x", n("z")), let("q p", pair), let("s", n("a")), inner=inner)

    def test_the_first_flow_that_lacks(self):
        # Told by a call, nothing lacks but by the block in which it stands.
        one = block(state("s", [let("p q", ("call", "cross", (n("w"), n("w")), None))]),
                    state("t", [let("q", n("z")), let("p", n("w"))]))
        self.lacks((1, "q"), let("x", lit(4, 0)), one, inner=[("p", 4), ("q", 4)])

    def test_of_the_first_node(self):
        bad = node("bad", [("w", 4)], [("x", 4)], [], let("x", last("w")))
        worse = node("worse", [("w", 4)], [("y", 4)], [], let("y", last("w")))
        self.assertEqual(bare_of(program(SUM, worse, bad)), ("worse", 0, "y"))
        self.assertEqual(bare_of(program(SUM, bad, worse, main="sum")), ("bad", 0, "x"))

    def test_refusals(self):
        for thing in any_things():
            if not isinstance(thing, Program):
                self.refused(FlowError, NoProgram, thing, bare_of, thing)
                self.refused(FlowError, NoProgram, thing, need_good, thing)
        fields = {"where": "m", "ring": ["x"]}
        for one in (program(RINGED), program(node("bad", [("w", 4)], [("x", 4)], [], let("x", last("w"))), RINGED)):
            self.refused_fields(FlowError, Ringed, fields, bare_of, one)
            self.refused_fields(FlowError, Ringed, fields, need_good, one)
        self.assertIsNone(need_good(program=program(SUM)))


if __name__ == "__main__":
    import unittest
    unittest.main()
