"""Promises 9, 51, 54 and 55: programs opened up, their runs beside Runs, and ins there and back."""

import random

from beatflows.errors import Bare, Barred, FlowError, NoIns, NoProgram, Ringed, TooMany
from beatflows.flats import Flat, FlatRun
from beatflows.opening import flat_ins, opened, plain_ins
from beatflows.programs import Program
from beatflows.runs import Run
from beatflows.terms import flows_of
from tests.beside import BesideCase, flow, opened_by_chance
from tests.chance import some_ins, some_program
from tests.helper import any_things
from tests.nodes import PLUS, SUM, TWICE, block, last, let, lit, n, node, program, state

A = ("a", 1)
YES, NO = lit(1, 1), lit(1, 0)


class BesideRuns(BesideCase):
    def test_programs_by_chance(self):
        for seed, one, _ in opened_by_chance(150):
            chance = random.Random(seed)
            self.beside(one, [some_ins(one, chance) for _ in range(15)])

    def test_at_the_begin(self):
        for _, one, flat in opened_by_chance(30):
            self.assertEqual(list(FlatRun(flat).kept().items()), list(Run(one).kept().items()))

    def test_where_lets_of_states_run(self):
        for seed, one, flat in opened_by_chance(60):
            chance = random.Random(seed)
            run = FlatRun(flat)
            for _ in range(10):
                run.beat(flat_ins(one, some_ins(one, chance)))
                self.look_at_blocks(one, flat, run)

    def look_at_blocks(self, one, flat, run):
        for name, _, _, _ in flat.rows():
            if name[0] == "runs":
                _, place, number, at = name
                # Of a block at most one state runs, that one which `state` tells; just where there is a turn.
                states = [other for other, _, _, _ in flat.rows() if other[:3] == name[:3]]
                running = [other[3] for other in states if run.worth(other) == 1]
                self.assertEqual(len(running), run.worth(("turn", place)))
                if running:
                    self.assertEqual(run.worth(("state", place, number)), running[0])
            if name[0] == "flow" and name[4] >= 0:
                plain = run.worth(flow(name[2], name[3], -1, name[1]))
                self.assertIn(run.worth(name), (None, plain))

    def test_a_worth_by_a_let_is_there_just_where_its_state_runs(self):
        one = program(TWICE, node("m", [("g", 1), ("w", 4)], [("x", 4), ("r", (2, 4))], [], block(
            state("s", [let("x", n("w")), let("r", lit((2, 4), (1, 2)))], [(n("g"), "t", 0)]),
            state("t", [let("r", ("row", (n("w"), n("w")))), let("x", ("call", "twice", (n("w"),), None))], [(n("g"), "s", 0)]))))
        run = FlatRun(opened(one))
        seen = []
        for g in (0, 1, 0, 1):
            run.beat({flow("g"): g, flow("w"): 3})
            seen.append([run.worth(flow("x", 0, at)) for at in (0, 3)] + [run.worth(flow("r", 1, at)) for at in (1, 2)]
                        + [run.worth(("runs", (), 0, at)) for at in (0, 1)] + [run.worth(("state", (), 0))])
        self.assertEqual(seen, [[3, None, 2, None, 1, 0, 0], [None, 6, None, 3, 0, 1, 1], [None, 6, None, 3, 0, 1, 1],
                                [3, None, 2, None, 1, 0, 0]])

    def test_truths_of_blocks(self):
        one = program(node("m", [("g", 1), ("h", 1)], [("x", 1)], [], block(
            state("s", [let("x", YES)], [(n("g"), "t", 1)], [(n("h"), "t", 1)]),
            state("t", [let("x", NO)], [(n("g"), "s", 0)], [(n("h"), "s", 0)]))))
        run = FlatRun(opened(one))
        seen = []
        for g, h in ((0, 0), (1, 0), (1, 1), (0, 1), (0, 0), (0, 1), (1, 0)):
            run.beat({flow("g"): g, flow("h"): h})
            ways = "".join(str(run.worth(("way", (), 0, at))) for at in range(4))
            seen.append((ways, *[run.worth((word, (), 0)) for word in ("took", "afresh")],
                         *[run.worth((word, (), 0, at)) for at in (0, 1) for word in ("runs", "enter")]))
        self.assertEqual(seen, [
            ("0000", 0, 0, 1, 0, 0, 0), ("1010", 1, 1, 0, 0, 1, 1), ("1111", 1, 0, 1, 0, 0, 0), ("0101", 0, 0, 1, 0, 0, 0),
            ("0000", 0, 0, 0, 0, 1, 1), ("0101", 0, 0, 0, 0, 1, 0), ("1010", 1, 1, 0, 0, 1, 1),
        ])

    def test_fresh_and_turn(self):
        mid = node("mid", [("w", 4)], [("x", 4)], [], let("x", ("call", "sum", (n("w"),), None)))
        one = program(SUM, mid, node("m", [("a", 1), ("e", 1, (A,))], [("x", 4, (A,))], [], let("x", ("call", "mid", (lit(4, 1),), "e"))))
        run = FlatRun(opened(one))
        seen = []
        for ins in ({"a": 1, "e": 0}, {"a": 0}, {"a": 1, "e": 1}):
            run.beat(flat_ins(one, ins))
            seen.append([run.worth((word, place)) for word in ("turn", "fresh") for place in ((), ((0, 0),), ((0, 0), (0, 0)))])
        self.assertEqual(seen, [[1, 1, 1, 0, 0, 0], [1, 0, 0, 0, 0, 0], [1, 1, 1, 0, 1, 1]])

    def test_an_in_that_hangs_back_on_an_out_of_the_same_call(self):
        cross = node("cross", [("a", 4), ("b", 4)], [("p", 4, (), 0), ("q", 4)], [],
                     let("p", ("add", n("b"), last("p"))), let("q", n("a")))
        one = program(cross, node("m", [("w", 4), ("e", 1)], [("x", 4), ("y", 4)], [], let("x y", ("call", "cross", (n("x"), n("w")), "e"))))
        self.beside(one, [{"w": w, "e": e} for w, e in ((1, 0), (2, 0), (3, 1), (4, 0))])

    def test_main_that_is_not_the_last(self):
        one = Program([SUM, PLUS, TWICE], main="plus")
        self.assertEqual(self.beside(one, [{"a": 1, "b": 2}, {"a": 15, "b": 15}]), [{"c": 3}, {"c": 14}])
        self.assertEqual([name for name, _, _ in opened(one).ins()], [flow("a"), flow("b")])


class Form(BesideCase):
    def names_of(self, flat):
        return [row[0] for row in flat.ins() + flat.rows()]

    def test_ins_and_outs(self):
        some = [("a", 1), ("b", 4, (A,)), ("r", (2, 3)), ("c", 1, (A,)), ("s", (2, 1), (A, ("c", 0)))]
        outs = [("x", (2, 3)), ("y", 4, (A,)), ("k", 1), ("z", 4)]
        one = program(node("m", some, outs, [], let("x", n("r")), let("y", n("b")), let("k", n("a")), let("z", lit(4, 1))))
        flat = opened(program=one)
        self.assertEqual([(name, width) for name, width, _ in flat.ins()], [
            (flow("a"), 1), (flow("b"), 4), (flow("r", 0), 3), (flow("r", 1), 3), (flow("c"), 1), (flow("s", 0), 1), (flow("s", 1), 1)])
        self.assertEqual([(name, names) for name, names, _ in flat.outs()], [
            ("x", (flow("x", 0), flow("x", 1))), ("y", (flow("y"),)), ("k", (flow("k"),)), ("z", (flow("z"),))])

    def test_flat_names(self):
        sub = node("sub", [("a", 4)], [("x", 4)], [("r", (2, 4))], let("r", ("row", (n("a"), n("a")))), block(
            state("s", [let("x", n("a"))], [(NO, "s", 0)], [(NO, "s", 0)])))
        one = program(sub, node("m", [("g", 1), ("w", (2, 4))], [("y", (2, 4))], [], let("y", ("map", "sub", (n("w"),), "g"))))
        awaited = [flow("g"), flow("w", 0), flow("w", 1), flow("y", 0), flow("y", 1), ("fresh", ()), ("turn", ())]
        for place in (((0, 0),), ((0, 1),)):
            awaited += [flow(name, at, -1, place) for name, at in (("a", 0), ("x", 0), ("r", 0), ("r", 1))]
            awaited += [flow("x", 0, 1, place), ("fresh", place), ("turn", place), ("runs", place, 0, 0), ("enter", place, 0, 0)]
            awaited += [("way", place, 0, 0), ("way", place, 0, 1), ("took", place, 0), ("afresh", place, 0), ("state", place, 0)]
        flat = opened(one)
        self.assertEqual(sorted(self.names_of(flat)), sorted(awaited))
        self.assertEqual({flat.width(name) for name in awaited if name[0] not in ("flow", "state")}, {1})
        self.assertEqual({flat.width(name) for name in awaited if name[0] == "state"}, {2})

    def test_cells(self):
        one = program(SUM, node("m", [("w", 4), ("t", (2, 3))], [("x", 4, (), 9)], [("k", (2, 3), (), (5, 6))], let("k", n("t")), block(
            state("s", [let("x", ("first", n("w"), last("x")))], [(("first", NO, ("bit", 0, ("at", 1, last("k")))), "s", 0)]))))
        flat = opened(one)
        self.assertEqual([(item, width, first) for item, width, first, _, _, _ in flat.cells()], [
            (("anew", (), 0), 1, 0), (("first", (), 1, 0), 1, 1), (("guard", (), 0, 0), 1, 1), (("last", (), "k", 0), 3, 5),
            (("last", (), "k", 1), 3, 6), (("last", (), "x", 0), 4, 9), (("next", (), 0), 2, 0)])

    def test_all_that_is_told_by_51_and_no_more(self):
        for _, one, flat in opened_by_chance(60):
            awaited = []
            run = Run(one)
            for place in run.places():
                a_node = one.node(run.node_at(place))
                flows = flows_of(a_node)
                many = {name: flows[name][0][0] if isinstance(flows[name][0], tuple) else 1 for name in flows}
                awaited += [flow(name, at, -1, place) for name in flows for at in range(many[name])] + [("fresh", place), ("turn", place)]
                number, blocks = 0, 0
                for item in a_node[4]:
                    if item[0] == "let":
                        number += 1
                        continue
                    ways = sum(len(one_state[2]) + len(one_state[3]) for one_state in item[1])
                    awaited += [("way", place, blocks, at) for at in range(ways)]
                    awaited += [(word, place, blocks) for word in ("took", "afresh", "state")]
                    for at, one_state in enumerate(item[1]):
                        awaited += [(word, place, blocks, at) for word in ("runs", "enter")]
                        for a_let in one_state[1]:
                            awaited += [flow(name, at, number, place) for name in a_let[1] for at in range(many[name])]
                            number += 1
                    blocks += 1
            self.assertEqual(sorted(map(repr, self.names_of(flat))), sorted(map(repr, awaited)))
            self.assertEqual([cell[0] for cell in flat.cells()], sorted(run.kept()))

    def test_made_alike_opened_alike(self):
        self.assertTrue(opened(some_program(3)) == opened(some_program(3)))

    def test_what_it_opens_may_be_handed_in_again(self):
        for _, _, flat in opened_by_chance(20):
            self.assertIs(flat.__class__, Flat)
            self.assertEqual(Flat(flat.ins(), flat.rows(), flat.cells(), flat.outs()), flat)


class Refused(BesideCase):
    def test_of_the_program(self):
        for thing in any_things():
            if not isinstance(thing, Program):
                self.refused(FlowError, NoProgram, thing, opened, thing)
        ringed = program(node("m", [], [("x", 1)], [], let("x", n("x"))))
        bare = program(node("m", [("w", 1)], [("x", 1)], [], let("x", last("w"))))
        self.refused_fields(FlowError, Ringed, {"where": "m", "ring": ["x"]}, opened, ringed)
        self.refused_fields(FlowError, Bare, {"where": "m", "at": 0, "found": "x"}, opened, bare)

    def wide(self, flows, some=()):
        """A node of so many flat flows of its own: ins, outs, and its two truths."""
        names = ["x" + chr(97 + at // 26) + chr(97 + at % 26) for at in range(flows - 2 - len(some))]
        return node("wide", some, [(name, 1) for name in names], [], *[let(name, NO) for name in names])

    def test_too_many_flat_flows(self):
        # The bounds of a node's flows stand aside here: a refusal is told of what is beyond them.
        self.assertEqual(len(opened(program(self.wide(400)))), 400)
        self.assertEqual(len(opened(program(self.wide(400, [("a", 1), ("b", 1)])))), 398)
        self.refused_fields(Barred, TooMany, {"many": 401}, opened, program(self.wide(401)))
        self.refused_fields(Barred, TooMany, {"many": 401}, opened, program(self.wide(401, [("a", 1)])))

    def test_what_isnt_good_ahead_of_too_many(self):
        for term, error, fields in ((n("xaa"), Ringed, {"where": "wide", "ring": ["xaa"]}),
                                    (last("xaa"), Bare, {"where": "wide", "at": 0, "found": "xaa"})):
            name, some, outs, inner, lets = self.wide(401)
            worse = program((name, some, outs, inner, (let("xaa", term), *lets[1:])))
            self.refused_fields(FlowError, error, fields, opened, worse)

    def rows(self, many, spare):
        """A program whose main one keeps last worths: so many cells, and spare widths beside."""
        names = ["x" + chr(97 + at // 26) + chr(97 + at % 26) for at in range(many)]
        more = ["y" + chr(97 + at // 26) + chr(97 + at % 26) for at in range(spare)]
        return program(node("m", [], [(name, 1, (), 0) for name in names] + [(name, 1) for name in more], [],
                            *[let(name, last(name)) for name in names], *[let(name, NO) for name in more]))

    def test_too_many_cells(self):
        self.assertEqual(len(opened(self.rows(200, 0)).cells()), 200)
        self.refused_fields(Barred, TooMany, {"many": 201}, opened, self.rows(201, 0))
        # Flows ahead of cells.
        self.refused_fields(Barred, TooMany, {"many": 401}, opened, self.rows(201, 198))

    def test_how_many_by_calls_within_calls(self):
        nodes = [node("na", [("a", 1)], [("x", 1, (), 0)], [], let("x", ("first", n("a"), last("x"))))]
        flows = 4
        for at in range(1, 10):
            names = ["x" + chr(97 + number) for number in range(20)]
            callee = "n" + chr(96 + at)
            nodes.append(node("n" + chr(97 + at), [("a", 1)], [("x", 1)], [(name, (4, 1)) for name in names], let("x", n("a")),
                              *[let(name, ("map", callee, (("row", (n("a"),) * 4),), None)) for name in names]))
            flows = 4 + 80 + 80 * flows
            self.refused_fields(Barred, TooMany, {"many": flows}, opened, Program(nodes))
        self.assertGreater(flows, 80 ** 9)

    def test_how_many_of_more_than_can_be_opened_up(self):
        states = [state(name, [let("x", ("first", n("a"), last("x")))], [(NO, name, 0)], [(NO, "s", 0)]) for name in "stu"]
        nodes = [node("na", [("a", 2)], [("x", 2, (), 0)], [], block(*states))]
        # An in, an out, three lets, two truths; of three states two each, six ways, three more.
        flows = 1 + 1 + 3 + 2 + 6 + 6 + 3
        for at in range(1, 10):
            callee = "n" + chr(96 + at)
            lets = [block(state("s", [let("x", ("call", callee, (n("a"),), None))], [], [(NO, "s", 0)]),
                           state("t", [let("x", ("call", callee, (n("a"),), None))])), let("y", ("map", callee, (lit((4, 2), (0,) * 4),), None))]
            nodes.append(node("n" + chr(97 + at), [("a", 2)], [("x", 2)], [("y", (4, 2))], *lets))
            flows = 1 + 1 + 4 + 2 + 2 + (4 + 1 + 3) + 6 * flows
            if flows > 400:
                self.refused_fields(Barred, TooMany, {"many": flows}, opened, Program(nodes))
        self.assertGreater(flows, 10 ** 8)

    def test_how_many_by_loops_and_blocks(self):
        one = node("one", [("a", 4), ("b", 4)], [("x", 4, (), 0)], [("r", (3, 4))], let("r", ("row", (n("a"), n("b"), last("x")))), block(
            state("s", [let("x", n("a"))], [(NO, "s", 0)], [(YES, "t", 0)]), state("t", [let("x", ("first", n("b"), n("a")))])))
        # Two ins, the out, a row of three, two lets, two truths; two states, two ways and three more truths.
        flows = 2 + 1 + 3 + 2 + 2 + 2 * 2 + 2 + 3
        main = [
            let("p", ("pairs", "one", n("r"), None)), let("q", ("fold", "one", lit(4, 0), (n("r"),), None)),
            let("u", ("map", "one", (n("r"), n("r")), None)), let("v", ("call", "one", (n("w"), n("w")), None)),
        ]
        whole = node("m", [("r", (4, 4)), ("w", 4)], [("p", (3, 4)), ("q", 4), ("u", (4, 4)), ("v", 4)], [], *main)
        flat = opened(program(one, whole))
        self.assertEqual(len(flat) + len(flat.ins()), 12 * flows + 4 + 1 + 3 + 1 + 4 + 1 + 2)
        self.assertEqual(len(flat.cells()), 12 * 4)
        outer = node("outer", [("r", (4, 4))], [(name, (4, 4)) for name in "xyz"], [],
                     *[let(name, ("call", "mid", (n("r"),), None)) for name in "xyz"])
        mid = node("mid", [("r", (4, 4))], [("x", (4, 4))], [("y", (4, 4))], let("x", ("map", "one", (n("r"), n("r")), None)),
                   let("y", ("map", "one", (n("r"), n("x")), None)))
        many = 3 * (8 * flows + 12 + 2) + 16 + 2
        self.refused_fields(Barred, TooMany, {"many": many}, opened, program(one, mid, outer))


class Ins(BesideCase):
    def setUp(self):
        some = [("a", 1), ("b", 4, (A,)), ("r", (3, 2)), ("s", (2, 8), (("a", 0),))]
        self.one = program(SUM, node("m", some, [("x", 1)], [], let("x", ("not", n("x")))))
        self.flows = {"a": [flow("a")], "b": [flow("b")], "r": [flow("r", at) for at in range(3)], "s": [flow("s", at) for at in range(2)]}

    def test_there_and_back(self):
        # The program needn't be good, and clocks count for nothing.
        for ins in ({}, {"a": 1}, {"b": 9}, {"r": (1, 2, 3)}, {"a": 0, "b": 15}, {"a": 1, "b": 3, "r": (0, 0, 0), "s": (255, 0)}, {"s": (1, 2)}):
            awaited = {}
            for name in "abrs":
                if name in ins:
                    worths = ins[name] if isinstance(ins[name], tuple) else (ins[name],)
                    awaited.update(zip(self.flows[name], worths))
            back = {name: ins[name] for name in reversed(ins)}
            told = flat_ins(program=self.one, ins=back)
            self.assertEqual(list(told.items()), list(awaited.items()))
            again = plain_ins(program=self.one, ins={name: told[name] for name in reversed(told)})
            self.assertEqual(list(again.items()), [(name, ins[name]) for name in "abrs" if name in ins])

    def test_what_was_handed_in_stays(self):
        ins = {"a": 1}
        flat_ins(self.one, ins).clear()
        flat = flat_ins(self.one, ins)
        plain_ins(self.one, flat).clear()
        self.assertEqual((ins, flat), ({"a": 1}, {flow("a"): 1}))

    def test_refusals(self):
        for thing in any_things():
            if not isinstance(thing, Program):
                self.refused(FlowError, NoProgram, thing, flat_ins, thing, thing)
                self.refused(FlowError, NoProgram, thing, plain_ins, thing, thing)
        for ins in ({"a": 2}, {"a": True}, {"a": None}, {"b": 16}, {"r": (1, 2)}, {"r": [1, 2, 3]}, {"r": (1, 2, 4)}, {"r": (1, 2, False)},
                    {"r": 1}, {"x": 1}, {"z": 1}, {1: 1}, {flow("a"): 1}, {"a": 1, "z": 1}, {"a": 1, (): 1}, [("a", 1)], ("a",)):
            self.refused(FlowError, NoIns, ins, flat_ins, self.one, ins)
        r = self.flows["r"]
        for ins in ({flow("a"): 2}, {flow("a"): True}, {flow("a"): (1,)}, {flow("a", False): 1}, {("flow", (), "a", 0, -1, 0): 1}, {flow("a", 1): 1},
                    {flow("a", 0, 0): 1}, {flow("a", 0, -1, ((0, 0),)): 1}, {flow("x"): 1}, {("fresh", ()): 1}, {"a": 1}, {r[0]: 1}, {r[0]: 1, r[1]: 2},
                    {r[0]: 1, r[1]: 2, r[2]: 4}, {r[0]: 1, r[1]: 2, r[2]: True}, {r[0]: 1, r[1]: 2, flow("r", 3): 1},
                    {flow("a"): 1, None: 1}, {flow("a"): None}, [flow("a")]):
            self.refused(FlowError, NoIns, ins, plain_ins, self.one, ins)
        for thing in any_things():
            if thing != {}:
                self.refused(FlowError, NoIns, thing, flat_ins, self.one, thing)
                self.refused(FlowError, NoIns, thing, plain_ins, self.one, thing)


if __name__ == "__main__":
    import unittest
    unittest.main()
