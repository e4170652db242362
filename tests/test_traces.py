"""Promises 91 to 94: origins, names found by lets, traces, and reasons."""

import random

from beatflows.errors import Bare, Barred, FlowError, Missing, NoFlat, NoIns, NoNumber, NoProgram, NotThere, Over, Ringed, TooMany
from beatflows.flats import Flat, FlatRun, says_so
from beatflows.opening import flat_ins, opened
from beatflows.programs import Program
from beatflows.runs import Run
from beatflows.terms import lets_of
from beatflows.traces import Trace, found_by, origin, shows_reason
from tests.beside import flow, opened_by_chance
from tests.chance import some_ins
from tests.flat_chance import some_flat, some_flat_ins
from tests.helper import SMALL, RefusalCase, any_things
from tests.nodes import SUM, TWICE, block, last, let, lit, n, node, program, state
from tests.test_flats import A, B, C, D, I, J, NO_NAMES, c, cell, f, lit as flat_lit, row

RINGED = ("ringed", (), (("x", 1, (), None),), (), (("let", ("x",), ("name", "x")),))

BARE = ("bare", (), (("x", 1, (), None),), (), (("let", ("x",), ("last", "x")),))


def too_many():
    """A program that is opened up to more flat flows than there may be."""
    nodes = [node("a", [("x", 8)], [("y", 8)], [], let("y", n("x")))]
    for ahead, name in ("ab", "bc", "cd", "de"):
        nodes.append(node(name, [("x", 8)], [("y", 8)], [("z", (4, 8))], let("z", ("map", ahead, (("row", (n("x"),) * 4),), None)),
                          let("y", ("at", 3, n("z")))))
    return Program(nodes)


# A main node with a block, of which each state calls, and a loop beneath.
MAIN = node(
    "main", [("a", 4), ("t", 1), ("r", (2, 4), (("t", 1),))], [("y", 4)], [("s", 4, (), 2), ("m", (2, 4), (("t", 1),))],
    block(
        state("p", [let("y", ("call", "twice", (n("a"),), None))], [(n("t"), "q", 1)]),
        state("q", [let("y", ("first", lit(4, 1), n("a")))], [], [(("first", n("t"), n("t")), "p", 0)]),
    ),
    let("s", ("call", "sum", (n("a"),), "t")),
    let("m", ("map", "sum", (n("r"),), None)),
)


class OriginCase(RefusalCase):
    def refused_as_opened(self, function, *things):
        for thing in any_things() + [opened(Program([SMALL]))]:
            if not isinstance(thing, Program):
                self.refused(FlowError, NoProgram, thing, function, thing, *things)
        self.refused_fields(FlowError, Ringed, {"where": "ringed", "ring": ["x"]}, function, Program([RINGED]), *things)
        self.refused_fields(FlowError, Bare, {"where": "bare", "at": 0, "found": "x"}, function, Program([BARE]), *things)
        refusal = self.assertRaises(TooMany)
        with refusal:
            function(too_many(), *things)
        self.assertGreater(refusal.exception.many, 400)
        self.assertIsInstance(refusal.exception, Barred)


class Origins(OriginCase):
    def setUp(self):
        self.program = program(TWICE, SUM, MAIN)

    def test_each_word(self):
        calls, sums = ((0, 0),), ((2, 0),)
        for name, awaited in (
            (flow("y", 0, 0), ((), "main", "let", 0)), (flow("y", 0, 1), ((), "main", "let", 1)), (flow("y"), ((), "main", "block", 0)),
            (flow("s"), ((), "main", "let", 2)), (flow("m", 1), ((), "main", "let", 3)), (flow("a"), ((), "main", "in", -1)),
            (flow("r", 1), ((), "main", "in", -1)), (("fresh", ()), ((), "main", "in", -1)), (("turn", ()), ((), "main", "in", -1)),
            (("fresh", calls), ((), "main", "arg", 0)), (("turn", sums), ((), "main", "arg", 2)), (flow("a", 0, -1, calls), ((), "main", "arg", 0)),
            (flow("a", 0, -1, ((3, 1),)), ((), "main", "arg", 3)), (flow("b", 0, -1, calls), (calls, "twice", "let", 0)),
            (flow("s", 0, -1, ((3, 1),)), (((3, 1),), "sum", "let", 0)),
            (("runs", (), 0, 1), ((), "main", "block", 0)), (("enter", (), 0, 0), ((), "main", "block", 0)), (("state", (), 0), ((), "main", "block", 0)),
            (("took", (), 0), ((), "main", "block", 0)), (("afresh", (), 0), ((), "main", "block", 0)), (("way", (), 0, 1), ((), "main", "block", 0)),
            (("next", (), 0), ((), "main", "block", 0)), (("anew", (), 0), ((), "main", "block", 0)), (("guard", (), 0, 0), ((), "main", "block", 0)),
            (("first", (), 1, 0), ((), "main", "let", 1)), (("last", sums, "s", 0), (sums, "sum", "let", 0)),
        ):
            self.assertEqual(origin(program=self.program, name=name), awaited, name)

    def test_far_beneath(self):
        inner = node("inner", [("a", 4)], [("b", 4)], [], let("b", ("call", "sum", (n("a"),), None)))
        outer = node("outer", [("a", 4)], [("y", 4)], [("r", (3, 4))], let("y", ("at", 0, n("r"))), let("r", ("map", "inner", (("row", (n("a"),) * 3),), None)))
        told = program(SUM, inner, outer)
        place = ((1, 2), (0, 0))
        self.assertEqual(origin(told, ("flow", place, "a", 0, -1)), (((1, 2),), "inner", "arg", 0))
        self.assertEqual(origin(told, ("fresh", place)), (((1, 2),), "inner", "arg", 0))
        self.assertEqual(origin(told, ("turn", ((1, 2),))), ((), "outer", "arg", 1))
        self.assertEqual(origin(told, ("last", place, "s", 0)), (place, "sum", "let", 0))
        self.assertEqual(found_by(told, ((1, 2),), 0), [("flow", ((1, 2),), "b", 0, -1)])

    def test_last_worths_of_ins_and_of_a_block_s_flow(self):
        told = program(
            node("echo", [("a", 1)], [("x", 1)], [], let("x", ("pick", lit(1, 1), n("a"), ("first", lit(1, 0), last("a"))))),
            node("main", [("a", (2, 3))], [("y", 1, (), 0)], [("z", (2, 3))],
                 block(state("p", [let("y", ("call", "echo", (last("y"),), None))])), let("z", ("first", n("a"), last("a")))),
        )
        self.assertEqual(origin(told, ("last", (), "y", 0)), ((), "main", "block", 0))
        self.assertEqual(origin(told, ("last", (), "a", 1)), ((), "main", "in", -1))
        self.assertEqual(origin(told, ("last", ((0, 0),), "a", 0)), ((), "main", "arg", 0))

    def test_each_name_and_item_has_one_and_each_let_is_found(self):
        for seed, told, flat in opened_by_chance(80):
            found = {}
            for name in [flow[0] for flow in flat.ins() + flat.rows()]:
                place, called, word, number = awaited = origin(told, name)
                self.assertIn(word, ("let", "block", "arg", "in"))
                self.assertEqual(Run(told).node_at(place), called)
                found.setdefault(awaited, []).append(name)
            for cell in flat.cells():
                place, called, word, number = origin(told, cell[0])
                self.assertEqual(Run(told).node_at(place), called)
                if cell[0][0] == "last":
                    self.assertEqual((place, called, word, number), origin(told, flow(cell[0][2], cell[0][3], -1, cell[0][1])))
            for place in Run(told).places():
                called = Run(told).node_at(place)
                for one in lets_of(told.node(called)):
                    names = found_by(told, place, one[0])
                    self.assertTrue(names)
                    self.assertEqual(names, found.pop((place, called, "let", one[0])), seed)
            self.assertNotIn("let", [key[2] for key in found])

    def test_found_by(self):
        self.assertEqual(found_by(program=self.program, place=(), at=3), [flow("m"), flow("m", 1)])
        self.assertEqual(found_by(self.program, (), 0), [flow("y", 0, 0)])
        self.assertEqual(found_by(self.program, ((3, 1),), 0), [flow("s", 0, -1, ((3, 1),))])
        found_by(self.program, (), 3).clear()
        self.assertEqual(found_by(self.program, (), 3), [flow("m"), flow("m", 1)])

    def test_refusals(self):
        self.refused_as_opened(origin, None)
        self.refused_as_opened(found_by, None, None)
        bad = [flow("y", 0, 2), flow("y", 1), flow("zz"), flow("b"), ("last", (), "a", 0), ("first", (), 0, 0), ("runs", (), 0, 2), ("fresh", ((1, 0),)),
               ("flow", [], "y", 0, -1), ("flow", (), "y", False, -1), ("flow", ((0, False),), "b", 0, -1)]
        for thing in bad + NO_NAMES + any_things():
            self.refused(Missing, NotThere, thing, origin, self.program, thing)
        for place, at in (((), 4), ((), -1), ((), True), ((), None), ((), "0"), (((0, 0),), 1), (((0, 1),), 0), (((0, False),), 0), (((9, 0),), 0),
                          ([], 0), (None, 0), ("", 0), (((0,),), 0), ((0, 0), 0), ({}, [])):
            self.refused_fields(Missing, NotThere, {"found": (place, at)}, found_by, self.program, place, at)


class Traces(OriginCase):
    def setUp(self):
        self.program = program(TWICE, SUM, MAIN)
        self.rows = [{"a": 1, "t": 0}, {"a": 2, "t": 1, "r": (3, 4)}, {"a": 3, "t": 0}, {"a": 4, "t": 1, "r": (1, 1)}]

    def traced(self):
        trace = Trace(self.program)
        for ins in self.rows:
            trace.beat(ins)
        return trace

    def test_it_is_a_run(self):
        trace = self.traced()
        run = Run(self.program)
        for ins in self.rows:
            run.beat(ins)
        self.assertIsInstance(trace, Run)
        self.assertEqual((trace.kept(), trace.beats(), trace.places()), (run.kept(), run.beats(), run.places()))
        for ins in ({"a": 1}, {"a": 1, "t": 1}, None):
            self.refused(FlowError, NoIns, ins, trace.beat, ins)
        self.assertEqual(trace.beats(), 4)
        self.assertEqual(trace.beat({"a": 1, "t": 0}), run.beat({"a": 1, "t": 0}))
        self.assertEqual(trace.worth((), "y"), run.worth((), "y"))

    def test_refusals(self):
        self.refused_as_opened(Trace)
        trace = self.traced()
        for thing in [flow("zz"), ("next", (), 1)] + NO_NAMES + any_things():
            self.refused(Missing, NotThere, thing, trace.had, thing, 99)
            self.refused(Missing, NotThere, thing, trace.since, thing, 99)
            self.refused(Missing, NotThere, thing, trace.reason, thing, 99)
        # A flat name keeps nothing.
        self.refused(Missing, NotThere, (name := flow("y")), trace.since, name, 0)
        for beat in [4, -1, True, False, None, "0", (0,), [0], 10 ** 29]:
            self.refused(FlowError, NoNumber, beat, trace.had, flow("y"), beat)
            self.refused(FlowError, NoNumber, beat, trace.had, ("next", (), 0), beat)
            self.refused(FlowError, NoNumber, beat, trace.since, ("next", (), 0), beat)
            self.refused(FlowError, NoNumber, beat, trace.reason, flow("y"), beat)
        self.refused(FlowError, NoNumber, 0, Trace(self.program).had, flow("y"), 0)

    def test_over(self):
        trace = Trace(Program([SMALL]))
        for _ in range(120):
            trace.beat({})
        self.refused_fields(Barred, Over, {"found": 120}, trace.beat, {})
        self.assertEqual((trace.had(flow("x"), 119), trace.beats()), (1, 120))

    def test_worths(self):
        trace = self.traced()
        flat = opened(self.program)
        run = FlatRun(flat)
        for beat, ins in enumerate(self.rows):
            ahead = run.kept()
            run.beat(flat_ins(self.program, ins))
            for name in [one[0] for one in flat.ins() + flat.rows()]:
                self.assertEqual(trace.had(name=name, beat=beat), run.worth(name))
            for item, _, first, _, _, begins in flat.cells():
                begun = begins is not None and run.worth(begins) == 1
                self.assertEqual(trace.had(item, beat), first if begun else ahead[item])
        self.assertIsNone(trace.had(flow("r", 1), 0))
        self.assertEqual((trace.had(flow("r", 1), 1), trace.had(("last", ((2, 0),), "s", 0), 2), trace.had(("last", ((2, 0),), "s", 0), 1)), (4, 2, 0))

    def test_since(self):
        trace = self.traced()
        # The sums of the loop have beats where `t` has 1 alone.
        item = ("last", ((3, 0),), "s", 0)
        self.assertEqual([trace.since(item=item, beat=beat) for beat in range(4)], [(0, "begin"), (1, "kept"), (1, "kept"), (3, "kept")])
        # The state was entered anew at beat 1, and runs from then on: ahead of that the first waits from the begin on.
        self.assertEqual([trace.since(("first", (), 1, 0), beat) for beat in range(4)], [(0, "begin"), (1, "kept"), (2, "kept"), (3, "kept")])
        self.assertEqual([trace.since(("next", (), 0), beat) for beat in range(4)], [(0, "kept"), (1, "kept"), (2, "kept"), (3, "kept")])

    def test_since_a_begin(self):
        held = node("held", [("a", 4), ("g", 1)], [("s", 4)], [("h", 4, (("g", 1),), 7), ("k", 4, (("g", 1),))],
                    let("h", ("when", n("a"), "g", 1)), let("k", last("h")), let("s", n("a")))
        trace = Trace(program(held, node("main", [("a", 4), ("g", 1), ("e", 1)], [("y", 4)], [], let("y", ("call", "held", (n("a"), n("g")), "e")))))
        item = ("last", ((0, 0),), "h", 0)
        for g, e in ((0, 0), (0, 1), (0, 0), (1, 0), (0, 0), (1, 1), (0, 1), (0, 0)):
            trace.beat({"a": 3, "e": e, "g": g})
        awaited = [(0, "begin"), (1, "begin"), (1, "begin"), (3, "kept"), (3, "kept"), (5, "kept"), (6, "begin"), (6, "begin")]
        self.assertEqual([trace.since(item, beat) for beat in range(8)], awaited)
        self.assertEqual([trace.had(item, beat) for beat in range(8)], [7, 7, 7, 7, 3, 7, 7, 7])

    def test_a_twin_is_a_trace(self):
        trace = self.traced()
        twin = trace.twin()
        self.assertIs(twin.__class__, Trace)
        self.assertEqual(twin.had(flow("y"), 1), trace.had(flow("y"), 1))
        twin.beat({"a": 9, "t": 0})
        self.assertEqual((twin.beats(), trace.beats(), twin.had(flow("a"), 4)), (5, 4, 9))
        self.refused(FlowError, NoNumber, 4, trace.had, flow("a"), 4)
        trace.beat({"a": 8, "t": 0})
        self.assertEqual((trace.had(flow("a"), 4), twin.had(flow("a"), 4)), (8, 9))
        fresh = trace.fresh()
        self.assertIs(fresh.__class__, Trace)
        self.assertEqual(fresh.beats(), 0)


def plain_reads(flat, worths, thing, beat):
    """By what a flow or an item has its worth, by promise 93, `worths` being a list of dicts, one for each beat."""
    def in_term(term):
        if term[0] in ("flat", "cell"):
            return {term[1]}
        return set().union(*[in_term(part) for part in term[1:] if isinstance(part, tuple)], set())
    order = [one[0] for one in flat.ins() + flat.rows() + flat.cells()]
    told = set()
    for name, _, clock, *rest in flat.ins() + flat.rows():
        if name == thing:
            told |= {(other, beat) for other, _ in clock}
            if rest and says_so(clock, worths[beat]):
                told |= {(other, beat) for other in in_term(rest[0])}
    for item, _, _, clock, term, begins in flat.cells():
        if item == thing:
            if begins is not None:
                told.add((begins, beat))
            if beat > 0 and not (begins is not None and worths[beat].get(begins) == 1):
                told |= {(other, beat - 1) for other, _ in clock}
                told |= {(other, beat - 1) for other in (in_term(term) if says_so(clock, worths[beat - 1]) else {item})}
    return tuple(sorted(told, key=lambda one: (one[1], order.index(one[0]))))


class ReasonCase(RefusalCase):
    def worths_of(self, flat, rows):
        run, told, read = FlatRun(flat), [], []
        for ins in rows:
            ahead = run.kept()
            run.beat(ins)
            told.append({name: run.worth(name) for name in [one[0] for one in flat.ins() + flat.rows()] if run.worth(name) is not None})
            begun = {item: begins is not None and run.worth(begins) == 1 for item, _, _, _, _, begins in flat.cells()}
            read.append({item: first if begun[item] else ahead[item] for item, _, first, _, _, _ in flat.cells()})
        return told, read

    def good(self, flat, rows, reason, asked, worths, read):
        """It is a list of just the rows that promise 93 asks for."""
        self.assertEqual(reason[-1][:2], asked)
        seen = set()
        for thing, beat, worth, reads in reason:
            self.assertNotIn((thing, beat), seen)
            self.assertEqual(worth, read[beat][thing] if thing in read[beat] else worths[beat].get(thing))
            self.assertEqual(reads, plain_reads(flat, worths, thing, beat))
            self.assertLessEqual(set(reads), seen)
            seen.add((thing, beat))
        near = {asked}
        for thing, beat, _, reads in reversed(reason):
            self.assertIn((thing, beat), near)
            near |= set(reads)
        self.told_true(shows_reason(flat, rows, reason))


class Reasons(ReasonCase):
    def setUp(self):
        self.flat = Flat([(A, 1, ()), (B, 4, ((A, 1),))], [row(C, 4, ("add", f(B), c(I)), ((A, 1),)), row(D, 4, ("xor", c(J), f(C)))],
                         [cell(I, 4, 5, f(C), ((A, 1),), None), cell(J, 4, 1, f(D), ((A, 0),), A)], [("x", (D,), ())])
        self.rows = [{A: 1, B: 2}, {A: 0}, {A: 1, B: 1}, {A: 0}]

    def test_word_for_word(self):
        told = program(SUM, node("main", [("a", 4), ("t", 1)], [("y", 4)], [("z", 4, (("t", 1),))], let("y", ("call", "sum", (n("a"),), None)),
                                 let("z", ("when", n("y"), "t", 1))))
        trace = Trace(told)
        trace.beat({"a": 1, "t": 0})
        trace.beat({"a": 2, "t": 1})
        place = ((0, 0),)
        child = [("flow", place, name, 0, -1) for name in "as"]
        item = ("last", place, "s", 0)
        self.assertEqual(trace.reason(name=flow("z"), beat=0), [(flow("t"), 0, 0, ()), (flow("z"), 0, None, ((flow("t"), 0),))])
        reason = trace.reason(flow("z"), 1)
        rows = {(one[0], one[1]): one[2:] for one in reason}
        turn, fresh = ("turn", place), ("fresh", place)
        self.assertEqual(rows[flow("z"), 1], (3, ((flow("t"), 1), (flow("y"), 1))))
        self.assertEqual(rows[item, 1], (1, ((turn, 0), (child[1], 0), (fresh, 1))))
        self.assertEqual(rows[item, 0], (0, ((fresh, 0),)))
        self.assertEqual(rows[child[1], 1][0], 3)
        self.assertEqual(set(rows[child[1], 1][1]), {(turn, 1), (child[0], 1), (item, 1)})
        self.assertEqual(rows[child[1], 1][1][-1], (item, 1))
        self.assertNotIn((flow("t"), 0), rows)

    def test_an_item_that_keeps_hangs_on_itself(self):
        worths, read = self.worths_of(self.flat, self.rows)
        self.assertEqual(plain_reads(self.flat, worths, I, 2), ((A, 1), (I, 1)))
        reason = [(I, 0, 5, ()), (A, 0, 1, ()), (B, 0, 2, ((A, 0),)), (C, 0, 7, ((A, 0), (B, 0), (I, 0))), (I, 1, 7, ((A, 0), (C, 0))),
                  (A, 1, 0, ()), (I, 2, 7, ((A, 1), (I, 1)))]
        self.told_true(shows_reason(self.flat, self.rows, reason))
        self.told_true(shows_reason(flat=self.flat, rows=tuple(self.rows), thing=tuple(reason)))

    def test_in_any_such_order(self):
        reason = [(A, 0, 1, ()), (I, 0, 5, ()), (B, 0, 2, ((A, 0),)), (C, 0, 7, ((A, 0), (B, 0), (I, 0)))]
        for order in ((0, 1, 2, 3), (1, 0, 2, 3), (0, 2, 1, 3)):
            self.told_true(shows_reason(self.flat, self.rows, [reason[at] for at in order]))
        for order in ((2, 0, 1, 3), (0, 1, 3, 2), (3, 0, 1, 2), (0, 1, 2), (0, 1, 3), (0, 0, 1, 2, 3), (0, 1, 2, 3, 3), ()):
            self.told_false(shows_reason(self.flat, self.rows, [reason[at] for at in order]))
        # A row that isn't asked for.
        self.told_false(shows_reason(self.flat, self.rows, [(A, 1, 0, ()), *reason]))

    def test_forged_ones(self):
        reason = [(A, 0, 1, ()), (I, 0, 5, ()), (B, 0, 2, ((A, 0),)), (C, 0, 7, ((A, 0), (B, 0), (I, 0))), (A, 1, 0, ()), (B, 1, None, ((A, 1),))]
        self.told_true(shows_reason(self.flat, self.rows, reason[:4]))
        self.told_true(shows_reason(self.flat, self.rows, reason[4:]))
        for at, forged in ((0, (A, 0, True, ())), (0, (A, False, 1, ())), (0, (A, 0, 0, ())), (0, (A, 0, 1, [])), (0, [A, 0, 1, ()]), (0, (A, 0, 1)),
                           (0, (A, 0, 1, (), ())), (0, (("a", 0), 0, 1, ())), (0, (["a"], 0, 1, ())), (0, (A, 4, 1, ())), (0, (A, -1, 1, ())), (0, (A, 2, 1, ())),
                           (1, (I, 0, 4, ())), (1, (I, 0, None, ())), (2, (B, 0, 2, ())), (2, (B, 0, 2, ((A, False),))), (2, (B, 0, 2, ([A, 0],))),
                           (2, (B, 0, 2, ((A, 0), (A, 0)))), (2, (B, 0, 2, ((A, 0, 0),))), (2, (B, 0, 2, ((["a"], 0),))), (2, (B, 0, 2, None)),
                           (3, (C, 0, 7, ((B, 0), (A, 0), (I, 0)))), (3, (C, 0, 7, ((A, 0), (B, 0)))), (3, (C, 0, 6, ((A, 0), (B, 0), (I, 0)))), (3, None), (3, {})):
            told = list(reason[:4])
            told[at] = forged
            self.told_false(shows_reason(self.flat, self.rows, told))
        for read in (None, 0, "", (), (A,), (A, 0, 0), [A, 0], {A: 0}, ("a", 0), (None, 0), (["a"], 0), (A, None), (A, True), ({}, 0), B, ((A, 0),)):
            self.told_false(shows_reason(self.flat, self.rows, [reason[0], (B, 0, 2, (read,))]))
        numbered = Flat([(("f", 1), 1, ())], [row(C, 1, ("not", f(("f", 1))))], [], [])
        rows = [{("f", 1): 1}]
        self.told_true(shows_reason(numbered, rows, [(("f", 1), 0, 1, ()), (C, 0, 0, ((("f", 1), 0),))]))
        self.told_false(shows_reason(numbered, rows, [(("f", 1), 0, 1, ()), (C, 0, 0, ((("f", True), 0),))]))
        self.told_false(shows_reason(numbered, rows, [(("f", True), 0, 1, ()), (C, 0, 0, ((("f", 1), 0),))]))
        for forged in ((B, 1, 0, ((A, 1),)), (B, 1, False, ((A, 1),)), (B, 1, 2, ((A, 1),))):
            self.told_false(shows_reason(self.flat, self.rows, [reason[4], forged]))
        for thing in any_things():
            self.told_false(shows_reason(self.flat, self.rows, thing))
            self.told_false(shows_reason(self.flat, self.rows, [thing]))
            self.told_false(shows_reason(self.flat, [], [thing]))

    def test_refusals(self):
        for thing in any_things():
            self.refused(FlowError, NoFlat, thing, shows_reason, thing, thing, thing)
        for thing in any_things() + [[{A: 0}] * 121]:
            if not isinstance(thing, (list, tuple)) or len(thing) > 120:
                self.refused(FlowError, NoIns, thing, shows_reason, self.flat, thing, None)
        bad = {A: 1, B: 16}
        other = {A: 2}
        self.refused(FlowError, NoIns, bad, shows_reason, self.flat, [{A: 0}, bad, other], None)
        self.told_false(shows_reason(self.flat, [{A: 0}] * 120, [(A, 119, 1, ())]))
        self.told_true(shows_reason(self.flat, [{A: 0}] * 120, [(A, 119, 0, ())]))

    def test_told_lists_are_new(self):
        trace = Trace(program(SUM))
        trace.beat({"a": 1})
        ahead = list(trace.reason(flow("s"), 0))
        trace.reason(flow("s"), 0).clear()
        self.assertEqual(trace.reason(flow("s"), 0), ahead)

    def test_programs_by_chance(self):
        for seed, told, flat in opened_by_chance(60):
            chance = random.Random(seed)
            trace, rows = Trace(told), []
            for _ in range(5):
                ins = some_ins(told, chance)
                trace.beat(ins)
                rows.append(flat_ins(told, ins))
            worths, read = self.worths_of(flat, rows)
            things = [one[0] for one in flat.ins() + flat.rows() + flat.cells()]
            for thing in chance.sample(things, min(4, len(things))):
                beat = chance.randrange(5)
                reason = trace.reason(thing, beat)
                self.good(flat, rows, reason, (thing, beat), worths, read)
                self.told_false(shows_reason(flat, rows, reason + reason[-1:]))
                self.told_false(shows_reason(flat, rows, reason[:-1] + [(*reason[-1][:2], 999, reason[-1][3])]))
                if len(reason) > 1:
                    self.told_false(shows_reason(flat, rows, reason[1:]))
                    self.told_false(shows_reason(flat, rows, reason[::-1]))

    def test_a_long_one(self):
        trace = Trace(program(SUM))
        for _ in range(120):
            trace.beat({"a": 1})
        reason = trace.reason(flow("s"), 119)
        self.assertGreater(len(reason), 240)
        self.told_true(shows_reason(opened(program(SUM)), [{flow("a"): 1}] * 120, reason))

    def test_a_worth_hangs_on_its_reason_alone(self):
        # In other runs in which the ins in the reason have the same worths, the one it is for has the same, too.
        for seed in range(120):
            flat = some_flat(seed)
            chance = random.Random(seed)
            rows = [some_flat_ins(flat, chance) for _ in range(4)]
            worths, read = self.worths_of(flat, rows)
            asked = (flat.rows()[-1][0], 3)
            near, waiting = {asked}, [asked]
            while waiting:
                for key in plain_reads(flat, worths, *waiting.pop()):
                    if key not in near:
                        near.add(key)
                        waiting.append(key)
            for _ in range(5):
                other = []
                for beat in range(4):
                    ins = {}
                    for name, width, clock in flat.ins():
                        if says_so(clock, ins):
                            ins[name] = rows[beat][name] if (name, beat) in near and name in rows[beat] else chance.randrange(2 ** width)
                    other.append(ins)
                told, _ = self.worths_of(flat, other)
                self.assertEqual(told[3].get(asked[0]), worths[3].get(asked[0]), seed)


if __name__ == "__main__":
    import unittest
    unittest.main()
