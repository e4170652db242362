"""Promises 101 to 103 and 105: memories, sayings that hold and fall, what shows them, and memories reached."""

import random

from beatflows.errors import Bare, Barred, FlowError, Missing, NoFlat, NoNumber, NoOut, NoProgram, NoWorths, Ringed, TooMany
from beatflows.flats import Flat, FlatRun, says_so
from beatflows.opening import opened
from beatflows.programs import Program
from beatflows.sayings import nexts, reached, saying, shows_falls, shows_holds
from beatflows.steps import Code
from tests.beside import flow, opened_by_chance
from tests.flat_chance import some_flat
from tests.helper import SMALL, RefusalCase, any_things
from tests.nodes import last, let, lit, n, node, program
from tests.test_flats import A, B, C, I, J, c, cell, f, lit as flat_lit, row
from tests.test_traces import BARE, RINGED, too_many

# Counts up where `u` has 1, back to 0 behind 5; says that it never comes to what `m` is.
COUNT = [("u", 1)], [("ok", 1), ("up", 1, (("u", 1),))], [("k", 3, (), 0)]


def counts(limit):
    """A program that counts from 0 to 5 and says of each beat that it isn't at the limit."""
    return program(node(
        "main", *COUNT,
        let("k", ("pick", n("u"), ("pick", ("same", last("k"), lit(3, 5)), lit(3, 0), ("add", last("k"), lit(3, 1))), last("k"))),
        let("ok", ("not", ("same", n("k"), lit(3, limit)))),
        let("up", ("when", ("less", n("k"), lit(3, 6)), "u", 1)),
    ))


def plain_ins(flat):
    told = [{}]
    for name, width, clock in flat.ins():
        told = [ins for one in told for ins in ([{**one, name: worth} for worth in range(2 ** width)] if says_so(clock, one) else [one])]
    return told


def step(flat, memory, ins):
    run = FlatRun(flat, kept=dict(zip([one[0] for one in flat.cells()], memory, strict=True)))
    return run.beat(ins), tuple(run.kept().values())


def first_of(flat):
    return tuple(one[2] for one in flat.cells())


def levels(flat, many=10 ** 9):
    """Of each memory that runs have, the fewest beats ahead of it, found plainly; stopped where they are more."""
    told, edge = {first_of(flat): 0}, [first_of(flat)]
    while edge and len(told) <= many:
        fresh = []
        for memory in edge:
            for ins in plain_ins(flat):
                behind = step(flat, memory, ins)[1]
                if behind not in told:
                    told[behind] = told[memory] + 1
                    fresh.append(behind)
        edge = fresh
    return told


class SayingCase(RefusalCase):
    def refused_as_opened(self, function, *things):
        for thing in any_things() + [opened(Program([SMALL]))]:
            if not isinstance(thing, Program):
                self.refused(FlowError, NoProgram, thing, function, thing, *things)
        self.refused_fields(FlowError, Ringed, {"where": "ringed", "ring": ["x"]}, function, Program([RINGED]), *things)
        self.refused_fields(FlowError, Bare, {"where": "bare", "at": 0, "found": "x"}, function, Program([BARE]), *things)
        with self.assertRaises(TooMany) as caught:
            function(too_many(), *things)
        self.assertGreater(caught.exception.many, 400)


class Sayings(SayingCase):
    def test_one_that_holds(self):
        told = saying(program=counts(6), out="ok")
        self.assertEqual(told, ("holds", [(at,) for at in range(6)]))
        self.assertIs(told.__class__, tuple)
        self.assertIs(told[1].__class__, list)
        self.assertEqual(saying(counts(7), "ok", most=6), told)

    def test_one_that_falls(self):
        u = flow("u")
        self.assertEqual(saying(counts(4), "ok"), ("falls", [{u: 1}] * 4))
        self.assertEqual(saying(counts(0), "ok"), ("falls", [{u: 0}]))

    def test_where_it_is_silent_it_does_not_fall(self):
        always = program(node("main", [("u", 1)], [("x", 1, (("u", 1),))], [], let("x", ("when", n("u"), "u", 1))))
        self.assertEqual(saying(always, "x"), ("holds", [()]))
        never = program(node("main", [("u", 1)], [("x", 1, (("u", 0),))], [], let("x", ("when", n("u"), "u", 0))))
        self.assertEqual(saying(never, "x"), ("falls", [{flow("u"): 0}]))

    def test_most(self):
        # Six memories: at just enough it is told, at one less it is refused.
        self.refused_fields(Barred, TooMany, {"many": 6}, saying, counts(6), "ok", most=5)
        self.refused_fields(Barred, TooMany, {"many": 2}, saying, counts(6), "ok", most=1)
        # The one that falls at the fifth beat asks for five memories, up to that beat's.
        self.assertEqual(len(saying(counts(5), "ok", most=5)[1]), 5)
        self.refused_fields(Barred, TooMany, {"many": 5}, saying, counts(5), "ok", most=4)
        self.assertEqual(saying(counts(0), "ok", most=1)[0], "falls")
        for thing in [0, 401, -1, True, None, "1", (1,), [1], 10 ** 29, {}]:
            self.refused(FlowError, NoNumber, thing, saying, counts(6), "ok", most=thing)
        self.assertEqual(saying(counts(6), "ok", most=400)[0], "holds")
        self.assertRaises(TypeError, saying, counts(6), "ok", 200)

    def test_200_memories_where_nothing_else_is_said(self):
        def one(limit):
            at = ("pick", ("same", last("k"), lit(8, limit)), lit(8, 0), ("add", last("k"), lit(8, 1)))
            return program(node("main", [], [("ok", 1)], [("k", 8, (), 0)], let("k", at), let("ok", ("less", n("k"), lit(8, 255)))))
        self.assertEqual(len(saying(one(199), "ok")[1]), 200)
        self.refused_fields(Barred, TooMany, {"many": 201}, saying, one(200), "ok")
        self.assertEqual(len(saying(one(200), "ok", most=201)[1]), 201)

    def test_200_where_nothing_else_is_said_of_memories_reached(self):
        def one(many):
            return Flat([], [], [cell(I, 8, 0, ("pick", ("same", c(I), flat_lit(8, many - 1)), flat_lit(8, 0), ("add", c(I), flat_lit(8, 1))), (), None)], [])
        self.assertEqual(len(reached(one(200))), 200)
        self.refused_fields(Barred, TooMany, {"many": 201}, reached, one(201))

    def test_what_falls_goes_ahead_of_memories_behind_its_beat(self):
        # Behind the first beat there are two; by one of them runs come to many more at the beat at which the other falls.
        two = program(node("main", [("a", 3)], [("ok", 1)], [("k", 3, (), 0)], let("ok", ("not", ("same", last("k"), lit(3, 2)))),
                           let("k", ("pick", ("same", last("k"), lit(3, 0)), ("pick", ("bit", 0, n("a")), lit(3, 2), lit(3, 1)), n("a")))))
        told = saying(two, "ok", most=3)
        self.assertEqual((told[0], len(told[1]), told[1][0]), ("falls", 2, {flow("a"): 1}))
        self.refused_fields(Barred, TooMany, {"many": 3}, saying, two, "ok", most=2)

    def test_memories_of_beats_behind_a_fall_are_not_asked_for(self):
        wide = program(node("main", [("a", 8)], [("ok", 1)], [("k", 8, (), 0)], let("k", n("a")), let("ok", ("not", ("less", last("k"), n("a"))))))
        self.assertEqual(saying(wide, "ok", most=1), ("falls", [{flow("a"): 1}]))

    def test_256_and_257_ins(self):
        def one(*ins):
            return program(node("main", list(ins), [("ok", 1)], [], let("ok", ("less", n("a"), lit(8, 255)))))
        self.assertEqual(saying(one(("a", 8)), "ok"), ("falls", [{flow("a"): 255}]))
        # With `t` as 1 there is one more.
        many = [one(("a", 8), ("t", 1)), one(("a", 8), ("b", 8))]
        clocked = program(node("main", [("t", 1), ("a", 8, (("t", 1),))], [("ok", 1)], [], let("ok", lit(1, 1))))
        for told in [*many, clocked]:
            for function, things in ((saying, []), (shows_holds, [None]), (shows_falls, [None])):
                self.refused_fields(Barred, TooMany, {"many": 257}, function, told, "ok", *things)
            self.refused_fields(Barred, TooMany, {"many": 257}, reached, opened(told))
            self.refused_fields(Barred, TooMany, {"many": 257}, nexts, opened(told), ())
        seven = program(node("main", [("t", 1), ("a", 7, (("t", 1),))], [("ok", 1)], [], let("ok", lit(1, 1))))
        self.assertEqual(saying(seven, "ok"), ("holds", [()]))
        self.assertEqual(len(nexts(opened(seven), ())), 129)

    def test_refusals_and_which_goes(self):
        self.refused_as_opened(saying, None)
        for thing in [*any_things(), "k", "u", "main", "zz"]:
            with self.assertRaises(NoOut) as caught:
                saying(counts(6), thing, most=0)
            self.assertIs(caught.exception.found, thing)
            self.assertIsInstance(caught.exception, Missing)
        # An out of another width is no saying.
        wide = program(node("main", [("a", 8), ("t", 1)], [("x", 2), ("r", (2, 1)), ("y", 1)], [], let("x", lit(2, 1)), let("r", lit((2, 1), (1, 1))), let("y", lit(1, 1))))
        for out in ("x", "r"):
            self.refused_fields(Missing, NoOut, {"found": out}, saying, wide, out)
        self.refused_fields(FlowError, NoNumber, {"found": 0}, saying, wide, "y", most=0)
        self.refused_fields(Barred, TooMany, {"many": 257}, saying, wide, "y", most=1)

    def test_told_lists_and_dicts_are_new(self):
        told = counts(4)
        rows = saying(told, "ok")[1]
        self.assertEqual(len({id(one) for one in rows}), 4)
        for one in rows:
            one.clear()
        rows.clear()
        self.assertEqual(saying(told, "ok"), ("falls", [{flow("u"): 1}] * 4))
        saying(counts(6), "ok")[1].clear()
        self.assertEqual(len(saying(counts(6), "ok")[1]), 6)

    def test_by_chance(self):
        seen = {}
        for seed, told, flat in opened_by_chance(130):
            rows = plain_ins(flat) if sum(one[1] for one in flat.ins()) <= 5 else None
            for out in [one[0] for one in told.node(told.main())[2] if one[1] == 1 and rows]:
                most = random.Random(seed).choice((1, 2, 4, 30))
                awaited = self.plainly(flat, out, most, rows)
                seen[awaited[0]] = seen.get(awaited[0], 0) + 1
                if awaited[0] == "many":
                    self.refused_fields(Barred, TooMany, {"many": most + 1}, saying, told, out, most=most)
                    continue
                paper = saying(told, out, most=most)
                self.assertEqual(paper[0], awaited[0])
                if paper[0] == "holds":
                    self.assertEqual(paper, awaited)
                    self.told_true(shows_holds(told, out, paper))
                    self.told_false(shows_falls(told, out, ("falls", [rows[0]])))
                else:
                    # Any of as few beats will do, by which it falls.
                    self.assertEqual(len(paper[1]), awaited[1])
                    self.told_true(shows_falls(told, out, paper))
                    self.told_false(shows_holds(told, out, ("holds", list(levels(flat, 30)))))
                self.assertEqual(saying(told, out, most=most), paper)
        self.assertTrue(min(seen[word] for word in ("holds", "falls", "many")) > 3, seen)

    def plainly(self, flat, out, most, rows):
        told, edge, beats = {first_of(flat): 0}, [first_of(flat)], 0
        while edge:
            beats += 1
            if len(told) > most:
                return ("many",)
            steps = [step(flat, memory, ins) for memory in edge for ins in rows]
            if any(outs.get(out) == 0 for outs, _ in steps):
                return "falls", beats
            edge = [behind for behind in dict.fromkeys(behind for _, behind in steps) if behind not in told]
            told.update({behind: beats for behind in edge})
        return "holds", sorted(told)


class Shown(SayingCase):
    def setUp(self):
        self.one = counts(6)
        self.held = [(at,) for at in range(6)]

    def test_that_it_holds(self):
        for memories in (self.held, self.held[::-1], tuple(self.held), self.held + [(0,)]):
            self.told_true(shows_holds(program=self.one, out="ok", thing=("holds", memories)))
        # Memories that no run has may be among them, as long as all that they lead to are.
        self.told_true(shows_holds(counts(7), "ok", ("holds", self.held)))
        self.told_false(shows_holds(self.one, "ok", ("holds", self.held + [(6,)])))
        # All that they lead to is among them, but the saying falls.
        self.told_false(shows_holds(counts(1), "ok", ("holds", self.held)))

    def test_papers_with_one_thing_otherwise(self):
        for at in range(6):
            self.told_false(shows_holds(self.one, "ok", ("holds", self.held[:at] + self.held[at + 1:])))
        for thing in (("Holds", self.held), ("falls", self.held), ("holds",), ("holds", self.held, 1), ["holds", self.held], ("holds", []), ("holds", {}), ("holds", None),
                      ("holds", self.held + [0]), ("holds", self.held + [[0]]), ("holds", self.held + [(0, 0)]), ("holds", self.held + [()]),
                      ("holds", self.held[1:] + [(False,)]), ("holds", self.held + [(True,)]), ("holds", self.held + [(8,)]), ("holds", self.held + [(-1,)]),
                      ("holds", self.held + [(None,)]), ("holds", self.held + [((0,),)]), (["holds"], self.held), (None, self.held)):
            self.told_false(shows_holds(self.one, "ok", thing))
        for thing in any_things():
            for function in (shows_holds, shows_falls):
                self.told_false(function(self.one, "ok", thing))
                for word in ("holds", "falls"):
                    self.told_false(function(self.one, "ok", (word, thing)))
                    self.told_false(function(self.one, "ok", (word, [thing])))

    def test_more_memories_than_runs_have(self):
        wide = program(node("main", [("u", 1)], [("ok", 1)], [("k", 8, (), 0)], let("k", last("k")), let("ok", lit(1, 1))))
        self.assertEqual(saying(wide, "ok"), ("holds", [(0,)]))
        self.told_true(shows_holds(wide, "ok", ("holds", [(at,) for at in range(256)])))
        self.told_false(shows_holds(wide, "ok", ("holds", [(at,) for at in range(1, 256)])))

    def test_that_it_falls(self):
        u, told = flow("u"), counts(3)
        self.told_true(shows_falls(program=told, out="ok", thing=("falls", [{u: 1}] * 3)))
        self.told_true(shows_falls(told, "ok", ("falls", ({u: 1}, {u: 0}, {u: 1}, {u: 1}))))
        for rows in ([{u: 1}] * 2, [{u: 1}] * 4, [{u: 1}] * 3 + [{u: 0}], [], [{u: 1}, {u: 1}, {u: 0}], [{u: 1}, {u: 1}, {}], [{u: 1}, {u: 1}, {u: True}],
                     [{u: 1}, {u: 1}, {u: 1, flow("k"): 1}], [{u: 1}, {u: 1}, {"u": 1}], [{u: 1}, {u: 1}, None], [{u: 1}, {u: 1}, {u: 2}], {}, None):
            self.told_false(shows_falls(told, "ok", ("falls", rows)))
        for thing in (("holds", [{u: 1}] * 3), ("falls", [{u: 1}] * 3, 1), ["falls", [{u: 1}] * 3], [{u: 1}] * 3):
            self.told_false(shows_falls(told, "ok", thing))

    def test_one_longer_than_a_run_may_be(self):
        u, told = flow("u"), counts(3)
        self.told_true(shows_falls(told, "ok", ("falls", [{u: 0}] * 500 + [{u: 1}] * 3)))
        self.told_false(shows_falls(told, "ok", ("falls", [{u: 0}] * 500 + [{u: 1}] * 2)))

    def test_refusals(self):
        for function in (shows_holds, shows_falls):
            self.refused_as_opened(function, None, None)
            for thing in [*any_things(), "k", "u"]:
                self.refused(Missing, NoOut, thing, function, self.one, thing, thing)
            self.assertRaises(TypeError, function, self.one, "ok", None, most=3)


class Reached(SayingCase):
    def test_nexts(self):
        flat = Flat([(A, 1, ()), (B, 2, ((A, 1),))], [row(C, 2, ("add", f(B), c(I)), ((A, 1),))], [cell(I, 2, 1, f(C), ((A, 1),), None), cell(J, 1, 0, f(A), (), None)],
                    [("x", (C,), ((A, 1),))])
        self.assertEqual(nexts(flat=flat, memory=(3, 0)), [
            ({A: 0}, {}, (3, 0)), ({A: 1, B: 0}, {"x": 3}, (3, 1)), ({A: 1, B: 1}, {"x": 0}, (0, 1)), ({A: 1, B: 2}, {"x": 1}, (1, 1)), ({A: 1, B: 3}, {"x": 2}, (2, 1)),
        ])
        self.assertEqual(nexts(Flat([], [], [], []), ()), [({}, {}, ())])

    def test_nexts_by_chance(self):
        for seed in range(200):
            flat = some_flat(seed)
            chance = random.Random(seed)
            memory = tuple(chance.randrange(2 ** one[1]) for one in flat.cells())
            rows = plain_ins(flat)
            if len(rows) <= 256:
                told = nexts(flat, memory)
                self.assertEqual([one[0] for one in told], rows)
                self.assertEqual([one[1:] for one in told], [step(flat, memory, ins) for ins in rows])

    def test_reached(self):
        self.assertEqual(reached(flat=opened(counts(6))), {(at,): at for at in range(6)})
        self.assertEqual(list(reached(opened(counts(0)), most=6)), [(at,) for at in range(6)])
        self.refused_fields(Barred, TooMany, {"many": 6}, reached, opened(counts(6)), most=5)
        self.assertEqual(reached(Flat([], [], [], []), most=1), {(): 0})
        down = Flat([], [], [cell(I, 2, 2, ("sub", c(I), flat_lit(2, 1)), (), None)], [])
        self.assertEqual(list(reached(down).items()), [((0,), 2), ((1,), 1), ((2,), 0), ((3,), 3)])

    def test_reached_by_chance(self):
        many = 0
        for seed in range(250):
            flat = some_flat(seed)
            if sum(one[1] for one in flat.ins()) > 4:
                continue
            awaited = levels(flat, 12)
            if len(awaited) > 12:
                self.refused_fields(Barred, TooMany, {"many": 13}, reached, flat, most=12)
                many += 1
            else:
                self.assertEqual(list(reached(flat, most=12).items()), sorted(awaited.items()))
        self.assertGreater(many, 3)

    def test_refusals(self):
        flat = opened(counts(6))
        for thing in [*any_things(), Code(flat)]:
            self.refused(FlowError, NoFlat, thing, nexts, thing, thing)
            self.refused(FlowError, NoFlat, thing, reached, thing, most=0)
        for thing in [*any_things(), (8,), (-1,), (True,), (0, 0), [0]]:
            if thing != (1,):
                self.refused(FlowError, NoWorths, thing, nexts, flat, thing)
        for thing in [0, 401, -1, True, None, "1", (1,), [1], 10 ** 29]:
            self.refused(FlowError, NoNumber, thing, reached, flat, most=thing)
        many = Flat([(A, 8, ()), (B, 1, ())], [], [], [])
        self.refused(FlowError, NoNumber, 0, reached, many, most=0)
        self.refused(FlowError, NoWorths, (0,), nexts, many, (0,))
        self.assertRaises(TypeError, reached, flat, 200)

    def test_told_lists_and_dicts_are_new(self):
        flat = opened(counts(6))
        told = nexts(flat, (0,))
        ahead = [(dict(ins), dict(outs), memory) for ins, outs, memory in told]
        for ins, outs, _ in told:
            ins.clear()
            outs.clear()
        told.clear()
        self.assertEqual(nexts(flat, (0,)), ahead)
        reached(flat).clear()
        self.assertEqual(len(reached(flat)), 6)


if __name__ == "__main__":
    import unittest
    unittest.main()
