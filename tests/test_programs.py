"""Promises 21, 22, 26 and 27: programs, the names and clocks of their nodes, lets and blocks."""

from beatflows.errors import FlowError, Missing, NoNode, NoNodes, NotThere
from beatflows.programs import Program
from tests.helper import SMALL, RefusalCase, any_things
from tests.nodes import CROSS, PLUS, SUM, TWICE, block, last, let, lit, n, node, state

X = [("x", 1)]
YES = lit(1, 1)
ON = ("a", 1)


def alone(*lets, ins=(), outs=X, inner=()):
    """A node `m` of these lets, as a list."""
    return [node("m", ins, outs, inner, *lets)]


class Made(RefusalCase):
    def test_a_list_or_a_tuple_of_one_to_ten_nodes(self):
        for nodes in ([SMALL], (SMALL,), [TWICE, PLUS]):
            self.assertEqual(Program(nodes).nodes(), tuple(nodes))
            self.assertEqual(Program(nodes=nodes, main=nodes[0][0]).main(), nodes[0][0])
        many = [(("n" + chr(97 + at)),) + SMALL[1:] for at in range(11)]
        self.assertEqual(len(Program(many[:10])), 10)
        self.refused(FlowError, NoNodes, many, Program, many)

    def test_what_is_no_such_list(self):
        for thing in any_things():
            if not isinstance(thing, (list, tuple)) or len(thing) == 0:
                self.refused(FlowError, NoNodes, thing, Program, thing)
        row = [SMALL] * 11
        self.refused(FlowError, NoNodes, row, Program, row)
        self.refused(FlowError, NoNodes, SMALL[0], Program, nodes=SMALL[0])

    def test_the_first_thing_that_is_no_node(self):
        for thing in any_things():
            self.refused(FlowError, NoNode, thing, Program, [SMALL, thing, thing])
            self.refused(FlowError, NoNode, thing, Program, (thing, SMALL), main="nope")
        second = list(SMALL)
        self.refused(FlowError, NoNode, second, Program, [SMALL, second, 1])

    def test_the_main_one(self):
        self.assertEqual(Program([TWICE, PLUS]).main(), "plus")
        self.assertEqual(Program([TWICE, PLUS], main=None).main(), "plus")
        self.assertEqual(Program([TWICE, PLUS], main="twice").main(), "twice")
        for thing in any_things():
            if thing is not None:
                self.refused(Missing, NotThere, thing, Program, [TWICE], main=thing)

    def test_which_goes_of_two(self):
        self.refused(FlowError, NoNodes, (), Program, (), main="nope")
        self.refused(FlowError, NoNode, 7, Program, [SMALL, 7], main="nope")
        self.refused(Missing, NotThere, "nope", Program, [SMALL, SMALL], main="nope")

    def test_arguments_behind_the_star(self):
        self.assertRaises(TypeError, Program, [SMALL], "small")

    def test_what_was_handed_in_stays(self):
        nodes = [TWICE, PLUS]
        program = Program(nodes)
        nodes.pop()
        self.assertEqual(len(program), 2)
        self.assertEqual(program.nodes(), (TWICE, PLUS))


class Told(RefusalCase):
    def setUp(self):
        loops = node(
            "m", [("a", 1), ("b", 4), ("r", (3, 4))], [("x", 4)], [("y", (3, 4)), ("u", 4), ("v", (2, 4)), ("w", 4, (ON,))],
            let("x", ("fold", "plus", n("b"), (n("r"),), "a")), let("y", ("map", "twice", (n("r"),), None)),
            block(
                state("s", [let("u", lit(4, 3))]),
                state("t", [let("u", ("call", "twice", (lit(4, 1),), None))]),
            ),
            let("v", ("pairs", "plus", n("r"), None)), let("w", ("when", n("b"), "a", 1)),
        )
        self.program = Program([TWICE, PLUS, CROSS, loops])

    def test_nodes_main_node_and_len(self):
        self.assertEqual(len(self.program), 4)
        self.assertEqual(self.program.node("plus"), PLUS)
        self.assertEqual(self.program.node(name="m"), self.program.nodes()[3])
        self.assertIsInstance(self.program.nodes(), tuple)

    def test_kinds_that_come(self):
        told = [self.program.kinds_at("m", at) for at in range(6)]
        self.assertEqual(told, [[4], [(3, 4)], [4], [4], [(2, 4)], [4]])
        self.assertEqual(self.program.kinds_at(name="cross", at=1), [4])
        pair = node("m", [("b", 4)], [("x", 4), ("y", 4)], [], let("x y", ("call", "cross", (n("b"), n("b")), None)))
        self.assertEqual(Program([CROSS, pair]).kinds_at("m", 0), [4, 4])
        rows = node("m", [("r", (2, 4))], [("x", (2, 4)), ("y", (2, 4))], [],
                    let("x y", ("map", "cross", (n("r"), n("r")), None)))
        self.assertEqual(Program([CROSS, rows]).kinds_at("m", 0), [(2, 4), (2, 4)])

    def test_told_lists_are_new(self):
        self.program.kinds_at("m", 0).append(1)
        self.assertEqual(self.program.kinds_at("m", 0), [4])

    def test_clocks_that_come(self):
        told = [self.program.clock_at("m", at) for at in range(6)]
        self.assertEqual(told[:2] + told[4:], [(), (), (), (ON,)])
        self.assertIsNone(told[2])
        self.assertIn(told[3], (None, ()))

    def test_a_clock_that_may_be_any(self):
        nodes = [SMALL, node("m", [ON[:1] + (1,)], [("x", 1, (ON,)), ("y", 1)], [],
                             let("x", ("call", "small", (), None)), let("y", ("not", YES)))]
        self.assertIsNone(Program(nodes).clock_at("m", 0))
        self.assertIsNone(Program(nodes).clock_at(name="m", at=1))
        self.assertEqual(Program(nodes).kinds_at("m", 1), [1])

    def test_refused_of_the_name_then_of_the_number(self):
        for thing in any_things():
            self.refused(Missing, NotThere, thing, self.program.node, thing)
            self.refused(Missing, NotThere, thing, self.program.kinds_at, thing, 99)
            self.refused(Missing, NotThere, thing, self.program.clock_at, thing, 99)
            if thing != 0 or isinstance(thing, bool):
                self.refused(Missing, NotThere, thing, self.program.kinds_at, "twice", thing)
                self.refused(Missing, NotThere, thing, self.program.clock_at, "twice", thing)
        for at in (-1, 6, 10 ** 29, True, False):
            self.refused(Missing, NotThere, at, self.program.kinds_at, "m", at)

    def test_equal_are_just_programs_of_equal_nodes_and_main_ones(self):
        self.assertTrue(Program([TWICE, PLUS]) == Program((TWICE, PLUS), main="plus"))
        self.assertFalse(Program([TWICE, PLUS]) == Program([TWICE, PLUS], main="twice"))
        self.assertFalse(Program([TWICE, PLUS]) == Program([PLUS, TWICE], main="plus"))
        self.assertFalse(Program([TWICE]) == Program([TWICE, PLUS], main="twice"))
        self.assertTrue(Program([TWICE]) != Program([PLUS]))
        for thing in [*any_things(), (TWICE,), [TWICE]]:
            self.assertFalse(Program([TWICE]) == thing)


class Names(RefusalCase):
    def test_a_node_ahead_has_the_name(self):
        other = node("twice", [], X, [], let("x", YES))
        self.unfit([TWICE, other], "twice", -1, "twice", "twice")
        self.unfit([TWICE, PLUS, TWICE], "twice", -1, "twice", "twice")
        Program([TWICE, PLUS])

    def test_a_flow_stands_twice(self):
        for some, outs, inner in (
            ([("x", 1)], X, []), ([], X + [("y", 1), ("x", 1)], []), ([], X, [("x", 2)]), ([("y", 1), ("y", 2)], X, []),
            ([("y", 1)], X, [("z", 1), ("y", 1)]), ([], X, [("y", 1), ("y", 1)]),
        ):
            names = [flow[0] for flow in some + outs + inner]
            found = [name for at, name in enumerate(names) if name in names[:at]][0]
            self.unfit(alone(let("x", YES), ins=some, outs=outs, inner=inner), "m", -1, "twice", found)

    def test_the_first_that_stands_ahead(self):
        nodes = alone(let("x", YES), ins=[("y", 1), ("z", 1)], inner=[("z", 1), ("y", 1)])
        self.unfit(nodes, "m", -1, "twice", "z")

    def test_a_name_of_a_let_that_is_no_out_or_inner_flow(self):
        self.unfit(alone(let("y", YES)), "m", 0, "unknown", "y")
        self.unfit(alone(let("x", YES), let("a", YES), ins=[("a", 1)]), "m", 1, "unknown", "a")
        self.unfit(alone(let("x p q", YES)), "m", 0, "unknown", "p")

    def test_a_name_of_a_let_that_stands_ahead(self):
        self.unfit(alone(let("x", YES), let("x", YES)), "m", 1, "twice", "x")
        self.unfit(alone(let("x x", YES)), "m", 0, "twice", "x")
        two = [("x", 1), ("y", 1)]
        self.unfit(alone(let("x", YES), let("y x", YES), outs=two), "m", 1, "twice", "x")
        self.unfit(alone(let("x y", ("call", "small", (), None)), let("y", YES), outs=two), "m", 0, "unknown", "small")

    def test_names_in_unlike_states_of_one_block(self):
        Program(alone(block(state("s", [let("x", YES)]), state("t", [let("x", YES)]), state("u", [let("x", YES)]))))
        self.unfit(alone(block(state("s", [let("x", YES), let("x", YES)]))), "m", 1, "twice", "x")
        self.unfit(alone(block(state("s", [let("x", YES)]), state("t", [let("x", YES), let("x", YES)]))),
                   "m", 2, "twice", "x")
        self.unfit(alone(block(state("s", [let("x", YES)])), block(state("t", [let("x", YES)]))), "m", 1, "twice", "x")
        self.unfit(alone(block(state("s", [let("x", YES)])), let("x", YES)), "m", 1, "twice", "x")
        self.unfit(alone(let("x", YES), block(state("s", [let("x", YES)]))), "m", 1, "twice", "x")
        # Blocks with a state of the same number are unlike ones all the same.
        self.unfit(alone(block(state("s", [let("x", YES)]), state("t", [let("x", YES)])),
                         block(state("s", [let("y", YES)]), state("t", [let("x", YES)])), inner=[("y", 1)]),
                   "m", 3, "twice", "x")

    def test_many_names_of_a_term(self):
        two = [("x", 1), ("y", 1), ("z", 1)]
        self.unfit(alone(let("x y z", YES), outs=two), "m", 0, "many", "y")
        self.unfit(alone(block(state("s", [let("z y", n("nope"))])), outs=two), "m", 0, "many", "y")

    def test_lets_names_of_unlike_clocks(self):
        pair = ("call", "cross", (lit(4, 1), lit(4, 2)), None)
        outs = [("x", 4), ("y", 4, (ON,))]
        self.unfit([CROSS, *alone(let("x y", pair), ins=[("a", 1)], outs=outs)], "m", 0, "clock", "y")
        self.unfit([CROSS, *alone(let("y x", pair), ins=[("a", 1)], outs=outs)], "m", 0, "clock", "x")
        both = [("x", 4, (ON,)), ("y", 4, (ON,))]
        Program([CROSS, *alone(let("x y", pair), ins=[("a", 1)], outs=both)])
        self.unfit([CROSS, *alone(block(state("s", [let("x y", pair)])), ins=[("a", 1)], outs=both)], "m", 0, "clock", "x")
        self.unfit([CROSS, *alone(block(state("s", [let("x y", pair)])), ins=[("a", 1)], outs=outs)], "m", 0, "clock", "y")

    def test_what_lacks(self):
        self.unfit(alone(let("x", YES), inner=[("y", 1)]), "m", -1, "lacks", "y")
        self.unfit(alone(let("y", YES), inner=[("y", 1)]), "m", -1, "lacks", "x")
        self.unfit(alone(let("z", YES), outs=[("x", 1), ("y", 1)], inner=[("z", 1)]), "m", -1, "lacks", "x")
        self.unfit(alone(let("x", YES), inner=[("z", 1), ("y", 1)]), "m", -1, "lacks", "z")

    def test_what_lacks_in_a_state(self):
        two = block(state("s", [let("x", YES), let("y", YES)]), state("t", [let("x", YES)]))
        self.unfit(alone(two, inner=[("y", 1)]), "m", -1, "lacks", "y")
        two = block(state("s", [let("x", YES)]), state("t", [let("y", YES)]))
        self.unfit(alone(two, inner=[("y", 1)]), "m", -1, "lacks", "x")
        three = block(state("s", [let("x", YES)]), state("t", [let("x", YES)]), state("u", [let("y", YES)]))
        self.unfit(alone(three, inner=[("y", 1)]), "m", -1, "lacks", "x")


class Clocks(RefusalCase):
    def fits(self, some, outs, inner=()):
        names = [flow[0] for flow in [*outs, *inner]]
        kinds = {flow[0]: flow[1] for flow in [*outs, *inner]}
        return [node("m", some, outs, inner, *[let(name, lit(kinds[name], 0)) for name in names])]

    def test_clocks_of_none_to_three_conditions(self):
        one, two, three = (("a", 1),), (("a", 1), ("b", 0)), (("a", 1), ("b", 0), ("c", 1))
        some = [("a", 1), ("b", 1, one), ("c", 1, two), ("d", 8, three)]
        Program(self.fits(some, [("x", 1), ("y", 1, one), ("z", 1, two), ("u", 1, three)], [("v", 1, three)]))

    def test_a_condition_on_what_is_no_flow_or_no_truth(self):
        for kind in (2, 8, (2, 1)):
            self.unfit(self.fits([("a", kind)], [("x", 1), ("y", 1, (ON,))]), "m", -1, "clock", "y")
        self.unfit(self.fits([], [("x", 1), ("y", 1, (ON,))]), "m", -1, "clock", "y")

    def test_a_condition_whose_clock_isnt_just_those_ahead(self):
        one = (("a", 1),)
        some = [("a", 1), ("b", 1, one), ("c", 1)]
        for clock in ((("b", 1),), (("a", 0), ("b", 1)), (("c", 1), ("b", 1)), (("a", 1), ("c", 1)), (("b", 1), ("a", 1)),
                      (("a", 1), ("b", 1), ("c", 1))):
            self.unfit(self.fits(some, [("x", 1), ("y", 1, clock)]), "m", -1, "clock", "y")
            self.unfit(self.fits(some, [("x", 1)], [("y", 1), ("z", 1, clock)]), "m", -1, "clock", "z")

    def test_an_in_names_ins_ahead(self):
        self.unfit(self.fits([("b", 1, (ON,)), ("a", 1)], X), "m", -1, "clock", "b")
        self.unfit(self.fits([("a", 1, (ON,))], X), "m", -1, "clock", "a")
        self.unfit(self.fits([("b", 1, (("x", 1),))], X), "m", -1, "clock", "b")
        self.unfit(self.fits([("b", 1, (("y", 1),))], X, [("y", 1)]), "m", -1, "clock", "b")

    def test_an_out_names_no_inner_flow(self):
        self.unfit(self.fits([], [("x", 1), ("y", 1, (("z", 1),))], [("z", 1)]), "m", -1, "clock", "y")
        Program(self.fits([], [("y", 1, (("x", 1),)), ("x", 1)]))
        self.unfit(self.fits([], [("x", 1, (("x", 1),))]), "m", -1, "clock", "x")

    def test_an_inner_flow_names_any(self):
        Program(self.fits([("a", 1)], X, [("u", 1, (("v", 0),)), ("v", 1), ("w", 1, (("x", 1),)), ("z", 1, (ON,))]))
        self.unfit(self.fits([], X, [("v", 1), ("u", 1, (("u", 1),))]), "m", -1, "clock", "u")

    def test_of_other_nodes_ins_and_outs_have_none(self):
        one = node("one", [("a", 1), ("b", 1, (ON,))], X, [], let("x", YES))
        out = node("out", [("a", 1)], [("x", 1), ("y", 1, (ON,))], [], let("x", YES), let("y", YES))
        inner = node("inner", [("a", 1)], X, [("y", 1, (ON,))], let("x", YES), let("y", YES))
        self.unfit([one, SMALL], "one", -1, "clock", "b")
        self.unfit([out, SMALL], "out", -1, "clock", "y")
        self.unfit([SMALL, out], "out", -1, "clock", "y", main="small")
        Program([inner, SMALL])
        Program([one, SMALL], main="one")
        Program([SMALL, out])

    def test_the_first_flow_goes(self):
        bad = (("nope", 1),)
        self.unfit(self.fits([("a", 1, bad)], [("x", 1, bad)], [("y", 1, bad)]), "m", -1, "clock", "a")
        self.unfit(self.fits([("a", 1)], [("x", 1, bad)], [("y", 1, bad)]), "m", -1, "clock", "x")


class Blocks(RefusalCase):
    def one(self, *ways, weak=(), **more):
        return alone(block(state("s", [let("x", YES)], ways, weak)), **more)

    def test_a_state_of_the_same_name(self):
        states = [state(name, [let("x", YES)]) for name in ("s", "t", "s", "t")]
        self.unfit(alone(block(*states)), "m", -1, "twice", "s")
        Program(alone(block(*states[:2]), block(state("s", [let("y", YES)])), inner=[("y", 1)]))

    def test_conditions(self):
        for bad, why, found in (
            (n("nope"), "unknown", "nope"), (last("nope"), "unknown", "nope"), (("not", n("q")), "unknown", "q"),
            (("and", lit(2, 1), YES), "kind", ("and", lit(2, 1), YES)), (lit(2, 1), "kind", lit(2, 1)),
            (lit((2, 1), (0, 1)), "kind", lit((2, 1), (0, 1))), (("add", n("b"), n("b")), "kind", ("add", n("b"), n("b"))),
            (n("c"), "clock", n("c")), (last("c"), "clock", last("c")), (("not", n("c")), "clock", n("c")),
            (("when", YES, "a", 1), "clock", ("when", YES, "a", 1)),
            (("not", ("merge", "a", YES, YES)), "clock", ("merge", "a", YES, YES)),
        ):
            some = [("a", 1), ("b", 2), ("c", 1, (ON,))]
            self.unfit(self.one((bad, "s", 0), ins=some), "m", -1, why, found)
            self.unfit(self.one((YES, "s", 1), weak=[(bad, "s", 0)], ins=some), "m", -1, why, found)

    def test_goals(self):
        self.unfit(self.one((YES, "t", 0)), "m", -1, "unknown", "t")
        self.unfit(self.one((YES, "s", 0), weak=[(YES, "m", 0)]), "m", -1, "unknown", "m")
        others = [block(state("s", [let("x", YES)], [(YES, "t", 0)])), block(state("t", [let("y", YES)]))]
        self.unfit(alone(*others, inner=[("y", 1)]), "m", -1, "unknown", "t")
        Program(alone(block(state("s", [let("x", YES)], [(YES, "t", 0)]), state("t", [let("x", YES)]))))

    def test_which_goes_of_two(self):
        bad = lit(2, 1)
        # Of one way the term's kinds, its clocks, its width, then the goal.
        some = [("a", 1), ("c", 1, (ON,)), ("d", 2, (ON,))]
        self.unfit(self.one((("and", n("c"), n("nope")), "t", 0), ins=some), "m", -1, "unknown", "nope")
        self.unfit(self.one((n("d"), "t", 0), ins=some), "m", -1, "clock", n("d"))
        self.unfit(self.one((bad, "t", 0)), "m", -1, "kind", bad)
        # Way by way, strong ones first.
        self.unfit(self.one((YES, "t", 0), (bad, "s", 0)), "m", -1, "unknown", "t")
        self.unfit(self.one((YES, "t", 0), weak=[(bad, "s", 0)]), "m", -1, "unknown", "t")
        self.unfit(self.one((YES, "s", 0), (YES, "u", 0), weak=[(bad, "s", 0)]), "m", -1, "unknown", "u")
        # State by state, the name ahead of the ways.
        two = block(state("s", [let("x", YES)], (), [(bad, "s", 0)]), state("s", [let("x", YES)]))
        self.unfit(alone(two), "m", -1, "kind", bad)
        two = block(state("s", [let("x", YES)]), state("s", [let("x", YES)], [(bad, "s", 0)]))
        self.unfit(alone(two), "m", -1, "twice", "s")


class WhichGoes(RefusalCase):
    """Faults in the order in which the document tells them: of each two, the one ahead goes."""

    # Each is a fault's place, what stands there instead, and what is refused.
    FAULTS = (
        ("name", "twice", ("twice", -1, "twice", "twice")),
        ("inner", ("a", 1), ("m", -1, "twice", "a")),
        ("clock", (("nope", 1),), ("m", -1, "clock", "w")),
        (0, let("nope", lit(4, 1)), ("m", 0, "unknown", "nope")),
        (1, let("y", n("gone")), ("m", 1, "unknown", "gone")),
        (2, let("u", ("add", lit(2, 1), YES)), ("m", 2, "kind", ("add", lit(2, 1), YES))),
        ("let", let("v", n("w")), ("m", 3, "clock", n("w"))),
        ("way", (lit(3, 1), "s", 0), ("m", -1, "kind", lit(3, 1))),
        (4, let("z", ("call", "none", (), None)), ("m", 4, "unknown", "none")),
        ("more", ("p", 1), ("m", -1, "lacks", "p")),
    )

    def nodes(self, faults):
        put = {place: thing for place, thing, _ in faults}
        inner = [("u", 1), ("v", 1), ("w", 1, put.get("clock", (ON,))), ("z", 4)]
        inner += [put[place] for place in ("inner", "more") if place in put]
        lets = [
            put.get(0, let("x", lit(4, 1))), put.get(1, let("y", n("a"))), put.get(2, let("u", YES)),
            block(state("s", [put.get("let", let("v", YES))], [put.get("way", (YES, "s", 0))])),
            put.get(4, let("z", ("call", "twice", (lit(4, 1),), None))), let("w", YES),
        ]
        return [TWICE, node(put.get("name", "m"), [("a", 1)], [("x", 4), ("y", 1)], inner, *lets), SUM]

    def test_without_faults(self):
        Program(self.nodes([]))

    def test_one_fault(self):
        for fault in self.FAULTS:
            self.unfit(self.nodes([fault]), *fault[2])

    def test_of_two_faults_the_one_ahead(self):
        for at, fault in enumerate(self.FAULTS):
            for other in self.FAULTS[at + 1:]:
                where = other[1] if other[0] == "name" else fault[2][0]
                self.unfit(self.nodes([fault, other]), where, *fault[2][1:])

    def test_a_block_behind_its_last_let_ahead_of_the_next_one(self):
        bad = (lit(2, 1), "s", 0)
        gone = let("x", n("gone"))
        first = state("s", [let("x", YES)], [bad])
        self.unfit(alone(block(first, state("t", [gone]))), "m", 1, "unknown", "gone")
        self.unfit(alone(block(first, state("s", [let("x", YES), gone]))), "m", 2, "twice", "x")
        self.unfit(alone(block(first, state("t", [let("x", YES)])), let("y", n("gone")), inner=[("y", 1)]), "m", -1, "kind", bad[0])
        # Whatever stands ahead of the block.
        self.unfit(alone(let("y", YES), block(first, state("t", [gone])), inner=[("y", 1)]), "m", 2, "unknown", "gone")
        ahead = block(state("s", [let("y", YES)]), state("t", [let("y", YES)]))
        self.unfit(alone(ahead, block(first, state("t", [gone])), inner=[("y", 1)]), "m", 3, "unknown", "gone")
        other = block(state("s", [let("y", n("gone"))]))
        self.unfit(alone(block(first, state("t", [let("x", YES)])), other, inner=[("y", 1)]), "m", -1, "kind", bad[0])
        self.unfit(alone(other, block(first), inner=[("y", 1)]), "m", 0, "unknown", "gone")

    def test_node_by_node(self):
        bad = alone(let("x", n("gone")))[0]
        worse = node("worse", [("a", 1), ("a", 1)], X, [], let("x", YES))
        self.unfit([bad, worse], "m", 0, "unknown", "gone")
        self.unfit([worse, bad], "worse", -1, "twice", "a")

    def test_names_of_a_let_ahead_of_its_right_side(self):
        gone = ("call", "gone", (), None)
        two = [("x", 1), ("y", 1, (ON,)), ("z", 1)]
        for names, why, found in (("x nope", "unknown", "nope"), ("x x", "twice", "x"), ("x y", "clock", "y")):
            self.unfit(alone(let(names, gone), ins=[("a", 1)], outs=two), "m", 0, why, found)
            self.unfit(alone(block(state("s", [let(names, gone)])), ins=[("a", 1)], outs=two), "m", 0, why, found)
        # In a state the clock of the names is looked at ahead of the right side, too, be they all of one.
        self.unfit(alone(block(state("s", [let("y", n("gone"))])), let("x z", gone), ins=[("a", 1)], outs=two), "m", 0, "clock", "y")
        self.unfit(alone(let("x z", n("gone")), ins=[("a", 1)], outs=two), "m", 0, "many", "z")
        # Each word of all names, ahead of the next word of any.
        self.unfit(alone(let("x x nope", gone), outs=X), "m", 0, "unknown", "nope")
        self.unfit(alone(let("x y x", n("gone")), ins=[("a", 1)], outs=two), "m", 0, "twice", "x")
        self.unfit(alone(let("x y", n("gone")), ins=[("a", 1)], outs=two), "m", 0, "many", "y")


if __name__ == "__main__":
    import unittest
    unittest.main()
