"""Promises 5, 44 and 45: what a run remembers, its places, the worths at them, twins, `fresh`, `lay`, `remembers`."""

import random

from beatflows.errors import Missing, NotThere
from beatflows.programs import Program
from beatflows.runs import Run
from tests.chance import some_ins, some_program
from tests.helper import RefusalCase, any_things
from tests.nodes import PLUS, SUM, TWICE, block, last, let, lit, n, node, program, state

YES, NO = lit(1, 1), lit(1, 0)


class Kept(RefusalCase):
    def kept(self, *beats):
        """What is remembered ahead of all beats, and behind each of them."""
        run = Run(self.one)
        seen = [run.kept()]
        for ins in beats:
            run.beat(ins)
            seen.append(run.kept())
        return seen

    def test_items_rising(self):
        inner = node("inner", [("a", 4)], [("x", 4)], [("r", (2, 4), (), (5, 6)), ("q", (2, 1))],
                     let("x", ("first", n("a"), ("first", ("at", 1, last("r")), lit(4, 2)))), let("r", ("row", (n("a"), n("x")))),
                     let("q", ("first", lit((2, 1), (1, 1)), last("q"))))
        one = node("m", [("w", 4)], [("x", (2, 4))], [("y", 4), ("z", 4, (), 3), ("k", 4)],
                   let("y", ("add", last("z"), n("k"))), let("z", n("w")),
                   block(state("s", [let("k", ("first", lit(4, 1), last("w")))], [(("first", NO, NO), "t", 0)], [(NO, "s", 1)]),
                         state("t", [let("k", lit(4, 0))], (), [(("and", ("first", NO, NO), ("first", NO, NO)), "s", 0)])),
                   let("x", ("map", "inner", (("row", (n("w"), n("y"))),), None)))
        self.one = program(inner, one)
        ahead, behind = self.kept({"w": 9})
        p, q = ((4, 0),), ((4, 1),)
        awaited = {
            ("anew", (), 0): (0, 0), ("first", (), 2, 0): (1, 0), ("first", p, 0, 0): (1, 0), ("first", p, 0, 1): (1, 0),
            ("first", p, 2, 0): (1, 0), ("first", q, 0, 0): (1, 0), ("first", q, 0, 1): (1, 0), ("first", q, 2, 0): (1, 0),
            ("guard", (), 0, 0): (1, 0), ("guard", (), 0, 1): (1, 0), ("guard", (), 0, 2): (1, 0),
            ("last", (), "w", 0): (0, 9), ("last", (), "z", 0): (3, 9), ("last", p, "q", 0): (0, 1), ("last", p, "q", 1): (0, 1),
            ("last", p, "r", 0): (5, 9), ("last", p, "r", 1): (6, 9), ("last", q, "q", 0): (0, 1), ("last", q, "q", 1): (0, 1),
            ("last", q, "r", 0): (5, 4), ("last", q, "r", 1): (6, 4), ("next", (), 0): (0, 0),
        }
        self.assertEqual(list(ahead.items()), [(item, worths[0]) for item, worths in awaited.items()])
        self.assertEqual(list(behind.items()), [(item, worths[1]) for item, worths in awaited.items()])
        self.assertEqual(list(ahead), sorted(ahead))

    def test_nothing_to_remember(self):
        self.one = program(PLUS)
        self.assertEqual(self.kept({"a": 1, "b": 2}), [{}, {}])

    def test_lasts_at_the_latest_beat(self):
        clock = (("a", 1),)
        one = node("m", [("a", 1), ("b", 4, clock)], [("x", 4, clock, 7)], [], let("x", ("add", n("b"), last("x"))))
        self.one = program(one)
        seen = [kept["last", (), "x", 0] for kept in self.kept({"a": 0}, {"a": 1, "b": 2}, {"a": 0}, {"a": 1, "b": 1})]
        self.assertEqual(seen, [7, 7, 9, 9, 10])

    def test_lasts_asked_for_in_conditions_alone(self):
        self.one = program(node("m", [("w", 1)], [("x", 1)], [("k", 1, (), 1)], let("k", n("w")), block(
            state("s", [let("x", YES)], [(last("k"), "s", 0)]))))
        self.assertEqual(self.kept({"w": 0})[0], {("anew", (), 0): 0, ("last", (), "k", 0): 1, ("next", (), 0): 0})

    def test_firsts_wait(self):
        self.one = program(node("m", [("a", 1)], [("x", 1)], [], let("x", ("merge", "a", ("first", YES, NO), ("first", YES, NO)))))
        seen = [tuple(kept.values()) for kept in self.kept({"a": 0}, {"a": 0}, {"a": 1})]
        self.assertEqual(seen, [(1, 1), (1, 0), (1, 0), (0, 0)])

    def test_next_and_anew(self):
        some = [("g", 1), ("h", 1)]
        self.one = program(node("m", some, [("x", 1)], [], block(
            state("s", [let("x", YES)], [(n("g"), "u", 1)], [(n("h"), "t", 1)]), state("t", [let("x", NO)], (), [(n("h"), "s", 0)]),
            state("u", [let("x", NO)], (), [(n("h"), "u", 1)]))))
        rows = [{"g": g, "h": h} for g, h in ((0, 1), (0, 0), (0, 1), (0, 0), (1, 1), (0, 1), (0, 0))]
        seen = [(kept["next", (), 0], kept["anew", (), 0]) for kept in self.kept(*rows)]
        self.assertEqual(seen, [(0, 0), (1, 1), (1, 0), (0, 0), (0, 0), (2, 0), (2, 1), (2, 0)])

    def test_guards_are_numbered_state_by_state_strong_ahead_of_weak(self):
        first = ("first", YES, NO)
        one = ("and", NO, first)
        self.one = program(node("m", [], [("x", 1)], [], block(
            state("s", [let("x", YES)], [(one, "s", 0)], [(one, "s", 0), (one, "s", 0)]), state("t", [let("x", YES)], [(one, "s", 0)]))))
        self.assertEqual([item for item in self.kept()[0] if item[0] == "guard"], [("guard", (), 0, at) for at in range(4)])

    def test_an_instance_without_a_turn_remembers_what_it_did(self):
        clock = (("a", 1),)
        self.one = program(SUM, node("m", [("a", 1)], [("x", 4, clock)], [], let("x", ("call", "sum", (lit(4, 3),), None))))
        seen = [kept["last", ((0, 0),), "s", 0] for kept in self.kept({"a": 1}, {"a": 0}, {"a": 1})]
        self.assertEqual(seen, [0, 3, 3, 6])

    def test_told_dicts_are_new(self):
        run = Run(program(SUM))
        run.kept().clear()
        self.assertEqual(run.kept(), {("last", (), "s", 0): 0})

    def test_runs_that_remember_the_same_go_on_alike(self):
        seen = 0
        for seed in range(40):
            one = some_program(seed)
            chance = random.Random(seed)
            run = Run(one)
            known = {}
            for _ in range(30):
                key = tuple(run.kept().values())
                if key in known:
                    ins = [some_ins(one, chance) for _ in range(4)]
                    ahead, now = known[key].twin(), run.twin()
                    self.assertEqual([ahead.beat(row) for row in ins], [now.beat(row) for row in ins])
                    self.assertEqual(ahead.kept(), now.kept())
                    seen += 1
                known[key] = run.twin()
                run.beat(some_ins(one, chance))
        self.assertGreater(seen, 50)


class Places(RefusalCase):
    def setUp(self):
        mid = node("mid", [("a", 4)], [("x", 4)], [("y", (2, 4))], let("y", ("map", "sum", (("row", (n("a"), n("a"))),), None)),
                   let("x", ("fold", "plus", n("a"), (n("y"),), None)))
        self.one = program(SUM, PLUS, TWICE, mid, node("m", [("g", 1), ("w", 4)], [("x", 4)], [("z", 4)], block(
            state("s", [let("x", ("call", "mid", (n("w"),), None))], [(n("g"), "t", 0)]),
            state("t", [let("x", ("call", "twice", (n("z"),), None))])), let("z", n("w"))))
        self.run_of_it = Run(self.one)

    def test_places_rising(self):
        awaited = [(), ((0, 0),), ((0, 0), (0, 0)), ((0, 0), (0, 1)), ((0, 0), (1, 0)), ((0, 0), (1, 1)), ((1, 0),)]
        self.assertEqual(self.run_of_it.places(), awaited)
        self.run_of_it.places().clear()
        self.assertEqual(self.run_of_it.places(), sorted(awaited))

    def test_nodes_at_places(self):
        told = [self.run_of_it.node_at(place=place) for place in self.run_of_it.places()]
        self.assertEqual(told, ["m", "mid", "sum", "sum", "plus", "plus", "twice"])

    def test_worths_at_places(self):
        run = self.run_of_it
        self.assertIsNone(run.worth((), "x"))
        run.beat({"g": 0, "w": 3})
        self.assertEqual(run.worth(place=(), name="x"), 9)
        self.assertEqual(run.worth(((0, 0),), "y"), (3, 3))
        self.assertEqual([run.worth(((0, 0), (1, at)), name) for at in (0, 1) for name in "abc"], [3, 3, 6, 6, 3, 9])
        self.assertEqual([run.worth(((1, 0),), name) for name in "ab"], [None, None])
        run.beat({"g": 1, "w": 4})
        self.assertEqual([run.worth(((1, 0),), name) for name in "ab"], [4, 8])
        self.assertEqual([run.worth(((0, 0),), name) for name in "axy"], [None] * 3)
        self.assertEqual(run.worth(((0, 0), (0, 0)), "s"), None)

    def test_refusals(self):
        run = self.run_of_it
        run.beat({"g": 0, "w": 3})
        bad = [((0, 1),), ((2, 0),), ((0, 0), (0, 2)), ((1, 0), (0, 0)), [], [(0, 0)], ([0, 0],), ((0, False),), ((False, 0),),
               ((True, 0),), ((0,),), ((0, 0, 0),), (0, 0), ((0, 0), ()), ((-1, 0),), ((10 ** 29, 0),), None, "m"]
        for place in bad + any_things():
            if place != () or not isinstance(place, tuple):
                self.refused(Missing, NotThere, place, run.node_at, place)
                self.refused_fields(Missing, NotThere, {"found": (place, "x")}, run.worth, place, "x")
        for name in ["w", "m", "", "q", *any_things()]:
            if name != "w":
                self.refused_fields(Missing, NotThere, {"found": ((), name)}, run.worth, (), name)
            self.refused_fields(Missing, NotThere, {"found": (((1, 0),), name)}, run.worth, ((1, 0),), name)

    def test_beats(self):
        run = Run(self.one)
        self.assertEqual(run.beats(), 0)
        run.beat({"g": 0, "w": 0})
        self.assertEqual(run.beats(), 1)


class Twins(RefusalCase):
    def all_worths(self, run, one):
        told = {}
        for place in run.places():
            _, ins, outs, inner, _ = one.node(run.node_at(place))
            for flow in ins + outs + inner:
                told[place, flow[0]] = run.worth(place, flow[0])
        return told

    def same(self, run, other, one):
        self.assertEqual((run.beats(), run.kept(), list(run.kept())), (other.beats(), other.kept(), list(other.kept())))
        self.assertEqual(self.all_worths(run, one), self.all_worths(other, one))

    def each(self):
        for seed in range(25):
            one = some_program(seed)
            chance = random.Random(seed)
            run = Run(one)
            for _ in range(5):
                run.beat(some_ins(one, chance))
            yield one, run, [some_ins(one, chance) for _ in range(5)]

    def test_a_twin_goes_its_own_way(self):
        for one, run, rows in self.each():
            twin = run.twin()
            self.assertIs(twin.__class__, Run)
            self.same(twin, run, one)
            other = run.twin()
            ahead = (run.kept(), self.all_worths(run, one))
            told = [twin.beat(ins) for ins in rows]
            self.assertEqual((run.kept(), self.all_worths(run, one)), ahead)
            self.same(run, other, one)
            self.assertEqual([run.beat(ins) for ins in rows], told)
            self.same(twin, run, one)

    def test_fresh_is_at_its_begin(self):
        for one, run, rows in self.each():
            self.same(run.fresh(), Run(one), one)
            self.assertEqual(run.beats(), 5)

    def test_lay(self):
        for one, run, rows in self.each():
            other = Run(Program(one.nodes(), main=one.main()))
            for ins in rows[:3]:
                other.beat(ins)
            self.assertIsNone(run.lay(other=other))
            self.same(run, other, one)
            for ins in rows:
                self.assertEqual(run.beat(ins), other.beat(ins))
            run.fresh().lay(run)
            self.same(run, other, one)

    def test_what_is_laid_goes_its_own_way(self):
        one = program(SUM)
        run, other = Run(one), Run(one)
        other.beat({"a": 3})
        run.lay(other)
        run.beat({"a": 1})
        self.assertEqual((run.worth((), "s"), other.worth((), "s"), other.beats(), run.beats()), (4, 3, 1, 2))

    def test_remembers(self):
        for one, run, rows in self.each():
            kept = run.kept()
            other = Run(one)
            other.beat(rows[0])
            self.assertIsNone(other.remembers(kept=kept, beats=77))
            self.assertEqual((other.kept(), other.beats()), (kept, 77))
            self.assertEqual(set(self.all_worths(other, one).values()), {None})
            for ins in rows:
                self.assertEqual(other.beat(ins), run.beat(ins))
            self.same_but_beats(other, run, one)

    def same_but_beats(self, run, other, one):
        self.assertEqual(run.kept(), other.kept())
        self.assertEqual(self.all_worths(run, one), self.all_worths(other, one))

    def test_what_was_handed_to_remembers_stays(self):
        run = Run(program(SUM))
        kept = {("last", (), "s", 0): 5}
        run.remembers(kept, 119)
        kept["last", (), "s", 0] = 9
        self.assertEqual(run.beat({"a": 1}), {"s": 6})
        self.assertEqual(kept, {("last", (), "s", 0): 9})
        self.assertRaises(LookupError, run.beat, {"a": 1})


if __name__ == "__main__":
    import unittest
    unittest.main()
