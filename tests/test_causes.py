"""Promises 31, 32 and 33: what hangs on what within a beat, and rings."""

import random
from itertools import permutations

from beatflows.causes import hangs, needs, ring_of, shows_ring
from beatflows.errors import FlowError, Missing, NoProgram, NotThere
from beatflows.programs import Program
from tests.chance import some_program
from tests.helper import RefusalCase, any_things
from tests.nodes import CROSS, PLUS, SUM, TWICE, block, last, let, lit, n, node, program, state

A = ("a", 1)


def chained(**asked):
    """A node `m` of inner flows, each of which needs those that are told of it by names, one letter each."""
    lets = []
    for name, others in asked.items():
        term = lit(1, 0)
        for other in others:
            term = ("and", term, n(other))
        lets.append(let(name, term))
    return node("m", [("in", 1)], [("out", 1)], [(name, 1) for name in asked], *lets, let("out", lit(1, 0)))


class Needs(RefusalCase):
    def needs_of(self, *lets, outs=(("x", 4),), inner=(), nodes=()):
        some = [("a", 1), ("b", 1, (A,)), ("w", 4), ("v", 4), ("r", (3, 4)), ("c", 4, (A, ("b", 0)))]
        return needs(Program([*nodes, node("m", some, outs, inner, *lets)]), "m")

    def test_of_each_out_and_inner_flow_in_order(self):
        told = self.needs_of(let("y", n("w")), let("z", lit(4, 0)), let("x", n("y")), inner=[("z", 4), ("y", 4)])
        self.assertEqual(list(told.items()), [("x", ["y"]), ("z", []), ("y", ["w"])])

    def test_names_in_the_order_of_the_flows_each_once(self):
        told = self.needs_of(let("x", ("add", ("add", n("y"), n("v")), ("add", n("w"), n("v")))), let("y", n("w")),
                             inner=[("y", 4)])
        self.assertEqual(told["x"], ["w", "v", "y"])

    def test_names_of_the_own_clock(self):
        outs = [("x", 4), ("y", 4, (A, ("b", 0)))]
        self.assertEqual(self.needs_of(let("x", lit(4, 0)), let("y", lit(4, 0)), outs=outs), {"x": [], "y": ["a", "b"]})

    def test_names_in_when_and_merge(self):
        outs = [("x", 4), ("y", 4, (A,))]
        told = self.needs_of(let("x", ("merge", "a", ("when", n("w"), "a", 1), lit(4, 0))), let("y", ("when", n("v"), "a", 1)),
                             outs=outs)
        self.assertEqual(told, {"x": ["a", "w"], "y": ["a", "v"]})

    def test_both_sides_are_needed(self):
        told = self.needs_of(let("x", ("first", n("w"), ("pick", n("a"), n("v"), lit(4, 0)))))
        self.assertEqual(told, {"x": ["a", "w", "v"]})

    def test_last_worths_are_not_needed(self):
        self.assertEqual(self.needs_of(let("x", ("add", last("w"), last("x")))), {"x": []})

    def test_of_a_call_the_terms_on_whose_ins_the_out_hangs(self):
        two = [("x", 4), ("y", 4)]
        told = self.needs_of(let("x y", ("call", "cross", (n("w"), n("v")), "a")), outs=two, nodes=[CROSS])
        self.assertEqual(told, {"x": ["a", "v"], "y": ["a", "w"]})
        late = node("late", [("p", 4)], [("q", 4, (), 0)], [], let("q", last("p")))
        told = self.needs_of(let("x", ("call", "late", (n("w"),), "a")), nodes=[late])
        self.assertEqual(told, {"x": ["a"]})

    def test_through_calls_of_calls(self):
        outer = node("outer", [("a", 4), ("b", 4), ("c", 4)], [("p", 4), ("q", 4)], [],
                     let("q p", ("call", "cross", (n("a"), n("b")), None)))
        told = self.needs_of(let("x y", ("call", "outer", (n("w"), n("v"), n("v")), None)), outs=[("x", 4), ("y", 4)],
                             nodes=[CROSS, outer])
        self.assertEqual(told, {"x": ["w"], "y": ["v"]})

    def test_of_loops(self):
        rows = [("x", (3, 4)), ("y", (3, 4))]
        told = self.needs_of(let("x y", ("map", "cross", (n("r"), n("z")), "a")), let("z", lit((3, 4), (1, 2, 3))), outs=rows,
                             inner=[("z", (3, 4))], nodes=[CROSS])
        self.assertEqual(told, {"x": ["a", "z"], "y": ["a", "r"], "z": []})
        told = self.needs_of(let("x", ("fold", "plus", n("w"), (n("r"),), "a")), nodes=[PLUS])
        self.assertEqual(told, {"x": ["a", "w", "r"]})

    def test_a_folds_start_goes_to_the_first_in(self):
        start = node("start", [("p", 4), ("q", 4)], [("o", 4)], [], let("o", n("p")))
        row = node("row", [("p", 4), ("q", 4)], [("o", 4)], [], let("o", n("q")))
        for one, awaited in ((start, ["w"]), (row, ["r"])):
            told = self.needs_of(let("x", ("fold", one[0], n("w"), (n("r"),), None)), nodes=[one])
            self.assertEqual(told, {"x": awaited})

    def test_the_row_of_pairs_goes_to_both(self):
        for lets, awaited in ((n("p"), ["r"]), (n("q"), ["r"]), (lit(4, 1), [])):
            one = node("one", [("p", 4), ("q", 4)], [("o", 4)], [], let("o", lets))
            told = self.needs_of(let("x", ("pairs", "one", n("r"), None)), outs=[("x", (2, 4))], nodes=[one])
            self.assertEqual(told, {"x": awaited})

    def test_flows_of_blocks(self):
        told = self.needs_of(
            block(
                state("s", [let("x", n("w")), let("y", lit(4, 1))], [(n("p"), "t", 0)], [(n("q"), "s", 0)]),
                state("t", [let("x y", ("call", "cross", (n("v"), lit(4, 1)), "u"))], [(last("u"), "s", 1), (n("a"), "s", 0)]),
            ),
            let("p", n("a")), let("q", n("a")), let("u", n("a")),
            outs=[("x", 4), ("y", 4)], inner=[("p", 1), ("q", 1), ("u", 1)], nodes=[CROSS],
        )
        self.assertEqual(told["x"], ["a", "w", "p", "u"])
        self.assertEqual(told["y"], ["a", "v", "p", "u"])
        self.assertEqual({name: told[name] for name in "pqu"}, {"p": ["a"], "q": ["a"], "u": ["a"]})

    def test_strong_conditions_of_this_block_alone(self):
        told = self.needs_of(
            block(state("s", [let("x", lit(4, 1))], [(n("a"), "s", 0)])), block(state("s", [let("y", lit(4, 1))])),
            outs=[("x", 4), ("y", 4)],
        )
        self.assertEqual(told, {"x": ["a"], "y": []})

    def test_told_lists_are_new(self):
        one = program(chained(p="", q=["p"]))
        for tell in (needs, hangs):
            told = tell(one, "m")
            for name in told:
                told[name].append("z")
            told.clear()
            self.assertEqual(tell(program=one, node="m"), tell(program(chained(p="", q=["p"])), "m"))
            self.assertNotIn("z", str(tell(one, "m")))

    def test_refusals(self):
        one = program(TWICE, PLUS)
        for thing in any_things():
            if not isinstance(thing, Program):
                self.refused(FlowError, NoProgram, thing, needs, thing, 1)
                self.refused(FlowError, NoProgram, thing, hangs, thing, 1)
            self.refused(Missing, NotThere, thing, needs, one, thing)
            self.refused(Missing, NotThere, thing, hangs, one, thing)


class Hangs(RefusalCase):
    def test_by_chains_of_needs(self):
        one = node("m", [("a", 4), ("b", 4), ("c", 4)], [("x", 4), ("y", 4), ("z", 4, (), 0)], [("p", 4), ("q", 4)],
                   let("x", n("q")), let("q", ("add", n("p"), n("c"))), let("p", n("b")), let("y", lit(4, 1)),
                   let("z", ("add", last("x"), n("y"))))
        self.assertEqual(list(hangs(program(one), "m").items()), [("x", ["b", "c"]), ("y", []), ("z", [])])

    def test_ins_in_order(self):
        self.assertEqual(hangs(program(PLUS), "plus"), {"c": ["a", "b"]})
        self.assertEqual(hangs(program(CROSS), "cross"), {"p": ["b"], "q": ["a"]})
        self.assertEqual(hangs(program(SUM), "sum"), {"s": ["a"]})

    def test_by_clocks_and_conditions(self):
        one = node("m", [("a", 1), ("b", 4, (A,)), ("c", 1)], [("x", 4, (A,)), ("y", 4)], [],
                   let("x", lit(4, 1)), block(state("s", [let("y", lit(4, 2))], [(n("c"), "s", 0)], [(n("a"), "s", 0)])))
        self.assertEqual(hangs(program(one), "m"), {"x": ["a"], "y": ["c"]})

    def test_as_chains_of_needs_in_programs_by_chance(self):
        for seed in range(60):
            one = some_program(seed)
            for a_node in one.nodes():
                asked = needs(one, a_node[0])
                told = {}
                for out in a_node[2]:
                    near = {out[0]}
                    while True:
                        more = near | {name for other in near for name in asked.get(other, [])}
                        if more == near:
                            break
                        near = more
                    told[out[0]] = [flow[0] for flow in a_node[1] if flow[0] in near]
                self.assertEqual(hangs(one, a_node[0]), told)


class Rings(RefusalCase):
    def ring(self, awaited, *nodes):
        one = program(*nodes)
        self.assertEqual(ring_of(one), None if awaited is None else ("m", awaited))
        if awaited is not None:
            self.assertIsInstance(ring_of(one), tuple)
            self.assertIsInstance(ring_of(one)[1], list)
            self.told_true(shows_ring(one, ring_of(one)))

    def test_none(self):
        self.ring(None, chained(p="", q=["p"], r=["p", "q"]))
        self.ring(None, chained(p=["in"]))
        self.ring(None, SUM)

    def test_of_one_flow(self):
        self.ring(["p"], chained(p=["p"]))
        self.ring(["q"], chained(p=["r"], q=["q"], r=["p"]))

    def test_of_several(self):
        self.ring(["p", "q"], chained(p=["q"], q=["p"]))
        self.ring(["a", "c", "b"], chained(b=["a"], a=["c"], c=["b"]))

    def test_the_shortest_goes(self):
        self.ring(["y", "z"], chained(a=["b"], b=["c"], c=["a"], y=["z"], z=["y"]))
        self.ring(["c", "d"], chained(a=["b"], b=["c"], c=["a", "d"], d=["c"]))

    def test_the_least_of_the_shortest_goes(self):
        self.ring(["b", "c", "d"], chained(b=["e", "c"], c=["d"], d=["b"], e=["f"], f=["b"]))
        self.ring(["b", "d", "c"], chained(b=["d", "e"], c=["b"], d=["f", "c"], e=["f"], f=["b"]))
        self.ring(["a", "b", "d"], chained(d=["a"], c=["d"], b=["d"], a=["c", "b"], e=["c"]))

    def test_the_least_by_names_not_by_where_they_stand(self):
        self.ring(["a", "d"], chained(y=["z"], z=["y"], d=["a"], a=["d"]))
        self.ring(["b", "z"], chained(z=["b"], y=["c"], c=["y"], b=["z"]))
        self.ring(["p"], chained(q=["q"], p=["p"]))
        self.ring(["b", "c", "z"], chained(z=["b"], y=["b"], d=["y"], c=["z"], b=["d", "c"]))

    def test_by_clocks_calls_and_blocks(self):
        self.ring(["x"], CROSS, node("m", [("a", 4)], [("x", 4), ("y", 4)], [],
                                     let("x y", ("call", "cross", (n("a"), n("x")), None))))
        self.ring(None, CROSS, node("m", [("a", 4)], [("x", 4), ("y", 4)], [],
                                    let("x y", ("call", "cross", (n("x"), n("a")), None))))
        self.ring(["x", "y"], node("m", [], [("x", 1), ("y", 1)], [],
                                   block(state("s", [let("x", n("y"))])), block(state("s", [let("y", lit(1, 1))], [(n("x"), "s", 0)]))))
        self.ring(None, node("m", [], [("x", 1), ("y", 1)], [],
                             block(state("s", [let("x", n("y"))])), block(state("s", [let("y", lit(1, 1))], (), [(n("x"), "s", 0)]))))
        self.ring(["x"], node("m", [], [("x", 1)], [], block(state("s", [let("x", lit(1, 1))], [(n("x"), "s", 0)]))))

    def test_of_a_clock(self):
        one = node("m", [], [("x", 1)], [("p", 1), ("q", 1, (("p", 1),))],
                   let("x", lit(1, 1)), let("p", ("merge", "p", n("q"), lit(1, 0))), let("q", lit(1, 1)))
        self.ring(["p"], one)

    def test_of_the_first_node_that_has_one(self):
        first = ("one",) + chained(p=["q"], q=["p"])[1:]
        second = ("two",) + chained(p=["p"])[1:]
        self.assertEqual(ring_of(program(TWICE, first, second)), ("one", ["p", "q"]))
        self.assertEqual(ring_of(program(TWICE, second, first)), ("two", ["p"]))

    def test_of_all_that_are_there_the_least(self):
        for seed in range(200):
            chance = random.Random(seed)
            names = "abcde"
            asked = {name: [other for other in names if chance.random() < 0.22] for name in names}
            rings = [
                list(ring) for many in range(1, 6) for ring in permutations(names, many)
                if ring[0] == min(ring) and all(ring[at] in asked[ring[at - 1]] for at in range(many))
            ]
            rings.sort(key=lambda ring: (len(ring), ring))
            self.ring(rings[0] if rings else None, chained(**asked))

    def test_told_lists_are_new(self):
        one = program(chained(p=["p"]))
        ring_of(one)[1].append("z")
        self.assertEqual(ring_of(program=one), ("m", ["p"]))

    def test_shows(self):
        one = program(CROSS, chained(a=["b"], b=["c"], c=["a", "b"], d=["a"]))
        for ring in (["a", "b", "c"], ["b", "c", "a"], ["c", "a", "b"], ["b", "c"], ["c", "b"], ("a", "b", "c")):
            self.told_true(shows_ring(one, ("m", ring)))
        for ring in (["a", "b"], ["a"], [], (), ["c", "b", "a"], ["a", "b", "c", "b", "c"], ["b", "c", "b", "c"], ["d"],
                     ["in"], ["a", "b", "c", "d"], ["a", "b", "z"], ["a", "b", ["c"]], ["a", "b", None], "abc", "a", None):
            self.told_false(shows_ring(one, ("m", ring)))
        ring = ["a", "b", "c"]
        for thing in (["m", ring], ("m", ring, 1), ("m",), ("cross", ring), ("z", ring), (["m"], ring), (None, ring), ()):
            self.told_false(shows_ring(one, thing))
        for thing in any_things():
            self.told_false(shows_ring(program=one, thing=thing))
            self.told_false(shows_ring(one, ("m", thing)))
            self.told_false(shows_ring(one, ("m", [thing])))
            self.told_false(shows_ring(one, (thing, ring)))

    def test_refusals(self):
        for thing in any_things():
            if not isinstance(thing, Program):
                self.refused(FlowError, NoProgram, thing, ring_of, thing)
                self.refused(FlowError, NoProgram, thing, shows_ring, thing, 1)


if __name__ == "__main__":
    import unittest
    unittest.main()
