"""Promises 41 and 42: runs of programs, what is told beat by beat, calls and loops."""

from beatflows.errors import Bare, Barred, FlowError, NoIns, NoProgram, Over, Ringed
from beatflows.programs import Program
from beatflows.runs import Run, run_all
from tests.beside import BesideCase
from tests.helper import any_things
from tests.nodes import CROSS, PLUS, SUM, TWICE, last, let, lit, n, node, program

A = ("a", 1)
NOT_A = ("a", 0)
MINUS = node("minus", [("p", 4), ("q", 4)], [("o", 4)], [], let("o", ("sub", n("p"), n("q"))))
SIFT = node("sift", [("p", 4), ("q", 4)], [("o", 4, (), 0)], [], let("o", ("add", n("p"), ("add", n("q"), last("o")))))
# Counts its turns from 1 on.
COUNT = node("count", [], [("c", 4, (), 0)], [], let("c", ("add", last("c"), lit(4, 1))))


def of_terms(some, *terms):
    """A node `m` with an out of the width 4 for each of the terms, called p, q and so on."""
    names = "pqrstu"[:len(terms)]
    return node("m", some, [(name, 4) for name in names], [], *[let(name, term) for name, term in zip(names, terms)])


class RunCase(BesideCase):
    def column(self, one, name, rows):
        """What the out tells, beat by beat, None where it is silent."""
        return [told.get(name) for told in self.beside(one, rows)]


class Words(RunCase):
    def one_beat(self, term, kind, ins, awaited):
        some = [("a", 1), ("w", 4), ("v", 4), ("r", (3, 4))]
        one = program(node("m", some, [("x", kind)], [], let("x", term)))
        self.assertEqual(self.beside(one, [{"a": 0, "w": 0, "v": 0, "r": (0, 0, 0), **ins}]), [{"x": awaited}])

    def test_each_form(self):
        for term, kind, ins, awaited in (
            (lit(4, 9), 4, {}, 9), (lit((2, 4), (9, 3)), (2, 4), {}, (9, 3)), (n("w"), 4, {"w": 7}, 7),
            (n("r"), (3, 4), {"r": (1, 2, 3)}, (1, 2, 3)), (("not", n("w")), 4, {"w": 3}, 12),
            (("and", n("w"), n("v")), 4, {"w": 6, "v": 3}, 2), (("or", n("w"), n("v")), 4, {"w": 6, "v": 3}, 7),
            (("xor", n("w"), n("v")), 4, {"w": 6, "v": 3}, 5), (("add", n("w"), n("v")), 4, {"w": 9, "v": 9}, 2),
            (("sub", n("w"), n("v")), 4, {"w": 3, "v": 5}, 14), (("less", n("w"), n("v")), 1, {"w": 3, "v": 5}, 1),
            (("less", n("w"), n("v")), 1, {"w": 5, "v": 3}, 0), (("same", n("w"), n("v")), 1, {"w": 5, "v": 5}, 1),
            (("wide", 2, n("w")), 2, {"w": 7}, 3), (("wide", 8, n("w")), 8, {"w": 7}, 7), (("bit", 2, n("w")), 1, {"w": 4}, 1),
            (("bit", 1, n("w")), 1, {"w": 4}, 0), (("pick", n("a"), n("w"), n("v")), 4, {"a": 1, "w": 5, "v": 3}, 5),
            (("pick", n("a"), n("w"), n("v")), 4, {"a": 0, "w": 5, "v": 3}, 3),
            (("row", (n("w"), n("v"))), (2, 4), {"w": 5, "v": 3}, (5, 3)), (("at", 0, n("r")), 4, {"r": (4, 5, 6)}, 4),
            (("at", 2, n("r")), 4, {"r": (4, 5, 6)}, 6), (("pick", n("a"), n("r"), lit((3, 4), (1, 1, 1))), (3, 4), {}, (1, 1, 1)),
        ):
            self.one_beat(term, kind, ins, awaited)

    def test_lets_in_any_order(self):
        one = program(node("m", [("w", 4)], [("x", 4)], [("y", 4), ("z", 4)],
                           let("x", ("add", n("y"), lit(4, 1))), let("y", ("add", n("z"), lit(4, 2))), let("z", n("w"))))
        self.assertEqual(self.beside(one, [{"w": 4}]), [{"x": 7}])


class Lasts(RunCase):
    def test_what_it_had_at_its_beat_before(self):
        self.assertEqual(self.column(program(SUM), "s", [{"a": 3}, {"a": 5}, {"a": 15}]), [3, 8, 7])
        one = program(node("m", [("w", 4)], [("x", 4)], [], let("x", ("first", lit(4, 9), last("w")))))
        self.assertEqual(self.column(one, "x", [{"w": 3}, {"w": 4}, {"w": 5}]), [9, 3, 4])

    def test_its_first_or_noughts_at_its_first_beat(self):
        outs = [("x", 4, (), 6), ("y", (2, 4), (), (1, 2))]
        one = program(node("m", [("w", 4)], outs, [("p", 4), ("q", (2, 4)), ("u", (2, 4)), ("v", 4), ("k", 4)],
                           let("x", n("w")), let("y", ("row", (n("w"), n("w")))), let("p", last("x")), let("q", last("y")),
                           let("u", last("q")), let("v", last("w")), let("k", last("x"))))
        # The row q is read of its first on, so its own last worth is there but at the first beat.
        run = Run(one)
        run.beat({"w": 9})
        told = {name: run.worth((), name) for name in "pquvk"}
        self.assertEqual(told, {"p": 6, "q": (1, 2), "u": (0, 0), "v": 0, "k": 6})
        run.beat({"w": 5})
        told = {name: run.worth((), name) for name in "pquvk"}
        self.assertEqual(told, {"p": 9, "q": (9, 9), "u": (1, 2), "v": 9, "k": 9})

    def test_in_an_instance_that_begins_anew(self):
        keep = node("keep", [("a", 4)], [("x", 4), ("y", 4)], [("p", 4, (), 6), ("q", (2, 4), (), (1, 2)), ("u", 4)],
                    let("p", n("a")), let("q", ("row", (n("a"), n("a")))), let("x", ("add", last("p"), ("at", 1, last("q")))),
                    let("u", last("a")), let("y", ("first", lit(4, 15), n("u"))))
        one = program(keep, node("m", [("e", 1), ("w", 4)], [("x", 4), ("y", 4)], [], let("x y", ("call", "keep", (n("w"),), "e"))))
        rows = [{"e": e, "w": w} for e, w in ((0, 3), (0, 4), (1, 5), (0, 7), (1, 1), (1, 2))]
        self.assertEqual([(told["x"], told["y"]) for told in self.beside(one, rows)],
                         [(8, 15), (6, 3), (8, 15), (10, 5), (8, 15), (8, 15)])
        run = Run(one)
        seen = []
        for row in rows:
            run.beat(row)
            seen.append(run.worth(((0, 0),), "u"))
        # Of no first it is nought at the first beat of each begin.
        self.assertEqual(seen, [0, 3, 0, 5, 0, 0])

    def test_of_rows(self):
        one = program(node("m", [("r", (2, 4))], [("x", (2, 4), (), (3, 4))], [],
                           let("x", ("row", (("add", ("at", 0, last("x")), ("at", 0, n("r"))), ("at", 0, last("x")))))))
        self.assertEqual(self.column(one, "x", [{"r": (1, 9)}, {"r": (2, 9)}]), [(4, 3), (6, 4)])


class Clocks(RunCase):
    def setUp(self):
        some = [("a", 1), ("b", 4, (A,)), ("w", 4)]
        outs = [("x", 4, (A,), 2), ("y", 4), ("z", 4, (NOT_A,))]
        self.one = program(node("m", some, outs, [], let("x", ("add", n("b"), last("x"))),
                                let("y", ("merge", "a", n("b"), ("add", n("z"), lit(4, 1)))), let("z", ("when", n("w"), "a", 0))))
        self.rows = [{"a": 1, "b": 3, "w": 5}, {"a": 0, "w": 6}, {"a": 0, "w": 7}, {"a": 1, "b": 1, "w": 8}]

    def test_silent_flows(self):
        self.assertEqual(self.beside(self.one, self.rows), [{"x": 5, "y": 3}, {"y": 7, "z": 6}, {"y": 8, "z": 7}, {"x": 6, "y": 1}])

    def test_outs_in_their_order(self):
        self.assertEqual([list(told) for told in self.beside(self.one, self.rows)], [["x", "y"], ["y", "z"], ["y", "z"], ["x", "y"]])

    def test_silent_worths(self):
        run = Run(self.one)
        seen = []
        for row in self.rows:
            run.beat(row)
            seen.append([run.worth((), name) for name in "abwxyz"])
        self.assertEqual(seen, [[1, 3, 5, 5, 3, None], [0, None, 6, None, 7, 6], [0, None, 7, None, 8, 7], [1, 1, 8, 6, 1, None]])

    def test_clocks_of_three_conditions(self):
        two = (A, ("b", 0))
        three = (*two, ("c", 1))
        some = [("a", 1), ("b", 1, (A,)), ("c", 1, two), ("d", 4, three)]
        one = program(node("m", some, [("x", 4, three, 1)], [], let("x", ("add", last("x"), n("d")))))
        rows = [{"a": 0}, {"a": 1, "b": 1}, {"a": 1, "b": 0, "c": 0}, {"a": 1, "b": 0, "c": 1, "d": 5},
                {"a": 1, "b": 0, "c": 1, "d": 2}]
        self.assertEqual(self.beside(one, rows), [{}, {}, {}, {"x": 6}, {"x": 8}])

    def test_inner_clocks(self):
        one = program(node("m", [("w", 4)], [("x", 4)], [("k", 1), ("y", 4, (("k", 1),), 0)],
                           let("k", ("bit", 0, n("w"))), let("y", ("add", last("y"), lit(4, 1))),
                           let("x", ("merge", "k", n("y"), lit(4, 0)))))
        self.assertEqual(self.column(one, "x", [{"w": w} for w in (1, 2, 3, 4, 5)]), [1, 0, 2, 0, 3])


class Firsts(RunCase):
    def columns(self, term, truths):
        one = program(of_terms([("a", 1)], term))
        return self.column(one, "p", [{"a": truth} for truth in truths])

    def test_a_then_b(self):
        self.assertEqual(self.columns(("first", lit(4, 1), lit(4, 2)), (0, 0, 0)), [1, 2, 2])

    def test_both_sides_are_worked_out(self):
        self.assertEqual(self.columns(("first", lit(4, 1), ("first", lit(4, 2), lit(4, 3))), (0, 0, 0)), [1, 3, 3])
        self.assertEqual(self.columns(("first", ("first", lit(4, 1), lit(4, 2)), lit(4, 3)), (0, 0)), [1, 3])
        self.assertEqual(self.columns(("pick", n("a"), ("first", lit(4, 1), lit(4, 2)), lit(4, 0)), (0, 1, 1)), [0, 2, 2])
        self.assertEqual(self.columns(("pick", n("a"), lit(4, 0), ("first", lit(4, 1), lit(4, 2))), (1, 0)), [0, 2])

    def test_the_side_of_a_merge_that_isnt_read_waits(self):
        term = ("merge", "a", ("first", lit(4, 1), lit(4, 2)), ("first", lit(4, 3), lit(4, 4)))
        self.assertEqual(self.columns(term, (1, 1, 0, 1, 0)), [1, 2, 3, 2, 4])
        self.assertEqual(self.columns(("first", term, lit(4, 9)), (0, 1, 0)), [3, 9, 9])

    def test_at_the_beats_of_its_flows(self):
        one = program(node("m", [("a", 1)], [("x", 4, (A,))], [], let("x", ("when", ("first", lit(4, 1), lit(4, 2)), "a", 1))))
        self.assertEqual(self.column(one, "x", [{"a": truth} for truth in (0, 1, 0, 1)]), [None, 1, None, 2])

    def test_in_args(self):
        one = program(TWICE, node("m", [("a", 1)], [("x", 4)], [],
                                  let("x", ("call", "twice", (("first", lit(4, 1), lit(4, 2)),), "a"))))
        # Every doesn't make anew what stands in the node that calls.
        self.assertEqual(self.column(one, "x", [{"a": 1}] * 3), [2, 4, 4])

    def test_of_each_let_by_itself(self):
        one = program(of_terms([("a", 1)], ("first", lit(4, 1), lit(4, 2)), ("merge", "a", ("first", lit(4, 3), lit(4, 4)), lit(4, 0))))
        self.assertEqual(self.beside(one, [{"a": 0}, {"a": 1}]), [{"p": 1, "q": 0}, {"p": 2, "q": 3}])


class Calls(RunCase):
    def test_ins_and_outs(self):
        one = program(MINUS, CROSS, node("m", [("w", 4), ("v", 4)], [("x", 4), ("y", 4), ("z", 4)], [],
                                         let("x", ("call", "minus", (n("w"), n("v")), None)),
                                         let("y z", ("call", "cross", (n("w"), n("v")), None))))
        self.assertEqual(self.beside(one, [{"w": 9, "v": 4}]), [{"x": 5, "y": 4, "z": 9}])

    def test_an_out_that_goes_back_into_the_same_call(self):
        one = program(CROSS, node("m", [("w", 4)], [("x", 4), ("y", 4)], [],
                                  let("x y", ("call", "cross", (("add", n("x"), lit(4, 1)), n("w")), None))))
        self.assertEqual(self.beside(one, [{"w": 5}, {"w": 15}]), [{"x": 5, "y": 6}, {"x": 15, "y": 0}])

    def test_each_let_has_an_instance_of_its_own(self):
        one = program(SUM, node("m", [("w", 4)], [("x", 4), ("y", 4)], [], let("x", ("call", "sum", (n("w"),), None)),
                                let("y", ("call", "sum", (lit(4, 2),), None))))
        self.assertEqual(self.beside(one, [{"w": 1}, {"w": 5}]), [{"x": 1, "y": 2}, {"x": 6, "y": 4}])

    def test_every(self):
        one = program(SUM, node("m", [("e", 1), ("w", 4)], [("x", 4)], [], let("x", ("call", "sum", (n("w"),), "e"))))
        rows = [{"e": e, "w": w} for e, w in ((0, 1), (0, 2), (1, 4), (0, 1), (1, 3), (1, 5))]
        self.assertEqual(self.column(one, "x", rows), [1, 3, 4, 5, 3, 5])

    def test_every_makes_all_beneath_anew(self):
        mid = node("mid", [("a", 4)], [("x", 4)], [("y", 4)], let("x", ("first", lit(4, 9), n("y"))),
                   let("y", ("call", "sum", (n("a"),), None)))
        one = program(SUM, mid, node("m", [("e", 1), ("w", 4)], [("x", 4)], [], let("x", ("call", "mid", (n("w"),), "e"))))
        rows = [{"e": e, "w": 1} for e in (0, 0, 0, 1, 0, 0)]
        self.assertEqual(self.column(one, "x", rows), [9, 2, 3, 9, 2, 3])

    def test_by_clocks(self):
        one = program(SUM, node("m", [("a", 1), ("e", 1, (A,))], [("x", 4, (A,)), ("y", 4, (NOT_A,))], [],
                                let("x", ("call", "sum", (lit(4, 1),), "e")), let("y", ("call", "sum", (lit(4, 1),), None))))
        rows = [{"a": 1, "e": 0}, {"a": 0}, {"a": 1, "e": 0}, {"a": 0}, {"a": 1, "e": 1}]
        self.assertEqual(self.beside(one, rows), [{"x": 1}, {"y": 1}, {"x": 2}, {"y": 2}, {"x": 1}])

    def test_of_many_outs_the_instance_has_one_turn(self):
        both = node("both", [("a", 4)], [("x", 4, (), 0), ("y", 4)], [], let("x", ("add", last("x"), n("a"))),
                    let("y", ("first", lit(4, 7), n("x"))))
        one = program(both, node("m", [("e", 1)], [("x", 4), ("y", 4)], [], let("x y", ("call", "both", (lit(4, 1),), "e"))))
        rows = [{"e": e} for e in (0, 0, 0, 1, 0)]
        self.assertEqual([(told["x"], told["y"]) for told in self.beside(one, rows)], [(1, 7), (2, 2), (3, 3), (1, 7), (2, 2)])


class Loops(RunCase):
    def test_map(self):
        one = program(MINUS, CROSS, node("m", [("r", (3, 4)), ("s", (3, 4))], [("x", (3, 4)), ("y", (3, 4)), ("z", (3, 4))], [],
                                         let("x", ("map", "minus", (n("r"), n("s")), None)),
                                         let("y z", ("map", "cross", (n("r"), n("s")), None))))
        self.assertEqual(self.beside(one, [{"r": (9, 8, 7), "s": (1, 2, 8)}]),
                         [{"x": (8, 6, 15), "y": (1, 2, 8), "z": (9, 8, 7)}])

    def test_map_has_an_instance_for_each_place(self):
        one = program(SUM, node("m", [("e", 1), ("r", (2, 4))], [("x", (2, 4))], [], let("x", ("map", "sum", (n("r"),), "e"))))
        rows = [{"e": e, "r": r} for e, r in ((0, (1, 2)), (0, (3, 5)), (1, (1, 1)), (0, (1, 2)))]
        self.assertEqual(self.column(one, "x", rows), [(1, 2), (4, 7), (1, 1), (2, 3)])

    def test_fold(self):
        one = program(MINUS, node("m", [("w", 4), ("r", (3, 4))], [("x", 4)], [], let("x", ("fold", "minus", n("w"), (n("r"),), None))))
        self.assertEqual(self.column(one, "x", [{"w": 10, "r": (1, 2, 3)}, {"w": 0, "r": (1, 0, 0)}]), [4, 15])
        back = node("back", [("p", 4), ("q", 4)], [("o", 4)], [], let("o", ("sub", n("q"), n("p"))))
        one = program(back, node("m", [("w", 4), ("r", (3, 4))], [("x", 4)], [], let("x", ("fold", "back", n("w"), (n("r"),), None))))
        # 1 - 10 is 7, 2 - 7 is 11, 3 - 11 is 8.
        self.assertEqual(self.column(one, "x", [{"w": 10, "r": (1, 2, 3)}]), [8])

    def test_fold_of_two_rows(self):
        three = node("three", [("p", 4), ("q", 4), ("k", 4)], [("o", 4)], [], let("o", ("add", n("p"), ("sub", n("q"), n("k")))))
        one = program(three, node("m", [("r", (2, 4)), ("s", (2, 4))], [("x", 4)], [],
                                  let("x", ("fold", "three", lit(4, 1), (n("r"), n("s")), None))))
        self.assertEqual(self.column(one, "x", [{"r": (5, 6), "s": (1, 2)}]), [9])

    def test_fold_has_an_instance_for_each_place(self):
        one = program(SIFT, node("m", [("e", 1), ("r", (2, 4))], [("x", 4)], [], let("x", ("fold", "sift", lit(4, 1), (n("r"),), "e"))))
        rows = [{"e": e, "r": (1, 2)} for e in (0, 0, 1)]
        # First beat: 1 + 1 is 2, 2 + 2 is 4. Second: 1 + 1 + 2 is 4, 4 + 2 + 4 is 10. Then anew.
        self.assertEqual(self.column(one, "x", rows), [4, 10, 4])

    def test_fold_whose_out_hangs_on_no_start(self):
        late = node("late", [("p", 4), ("q", 4)], [("o", 4, (), 1)], [], let("o", ("add", last("o"), n("q"))))
        one = program(late, node("m", [("r", (3, 4))], [("x", 4)], [], let("x", ("fold", "late", n("x"), (n("r"),), None))))
        run = Run(one)
        self.assertEqual([run.beat({"r": (1, 2, 3)}) for _ in range(2)], [{"x": 4}, {"x": 7}])
        self.assertEqual([run.worth(((0, at),), "p") for at in range(3)], [7, 3, 5])

    def test_pairs(self):
        one = program(MINUS, node("m", [("r", (4, 4))], [("x", (3, 4))], [], let("x", ("pairs", "minus", n("r"), None))))
        self.assertEqual(self.column(one, "x", [{"r": (9, 5, 2, 1)}, {"r": (0, 1, 3, 3)}]), [(4, 3, 1), (15, 14, 0)])
        one = program(SIFT, node("m", [("e", 1), ("r", (3, 4))], [("x", (2, 4))], [], let("x", ("pairs", "sift", n("r"), "e"))))
        rows = [{"e": e, "r": (1, 2, 3)} for e in (0, 0, 1)]
        self.assertEqual(self.column(one, "x", rows), [(3, 5), (6, 10), (3, 5)])

    def test_loops_within_loops_and_clocks(self):
        mid = node("mid", [("r", (2, 4))], [("x", 4)], [], let("x", ("fold", "sift", lit(4, 0), (n("r"),), None)))
        one = program(SIFT, mid, node("m", [("a", 1), ("r", (2, 4), (A,))], [("x", 4, (A,))], [], let("x", ("call", "mid", (n("r"),), None))))
        rows = [{"a": 1, "r": (1, 2)}, {"a": 0}, {"a": 1, "r": (1, 2)}]
        self.assertEqual(self.column(one, "x", rows), [3, None, 7])


class Deep(RunCase):
    def test_long_chains_and_many_nodes(self):
        chain = [let("x", n("a"))] + [let("x" + chr(97 + at), ("add", n("x" + chr(96 + at) if at else "x"), lit(4, 1))) for at in range(23)]
        inner = [("x", 4)] + [("x" + chr(97 + at), 4) for at in range(22)]
        nodes = [node("na", [("a", 4)], [("xw", 4)], inner, *chain)]
        for at in range(1, 9):
            nodes.append(node("n" + chr(97 + at), [("a", 4)], [("x", 4)], [], let("x", ("call", "n" + chr(96 + at), (n("a"),), None))))
        last_one = node("m", [("a", 4)], [("x", 4)], [("y", 4)], let("x", ("call", "ni", (n("y"),), None)), let("y", ("call", "ni", (n("a"),), None)))
        one = Program([*nodes, last_one])
        self.assertEqual(self.beside(one, [{"a": 1}, {"a": 2}]), [{"x": 15}, {"x": 0}])
        self.assertEqual(len(Run(one).places()), 19)

    def test_terms_eight_deep(self):
        term = n("a")
        for _ in range(7):
            term = ("add", term, lit(4, 1))
        self.assertEqual(self.column(program(of_terms([("a", 4)], term)), "p", [{"a": 1}]), [8])


class Refusals(RunCase):
    def test_of_the_program(self):
        ringed = program(node("m", [], [("x", 1)], [], let("x", n("x"))))
        bare = program(node("m", [("w", 1)], [("x", 1)], [], let("x", last("w"))))
        for thing in any_things():
            if not isinstance(thing, Program):
                self.refused(FlowError, NoProgram, thing, Run, thing)
                self.refused(FlowError, NoProgram, thing, run_all, thing, 1)
        for make in (Run, lambda one: run_all(one, 1)):
            self.refused_fields(FlowError, Ringed, {"where": "m", "ring": ["x"]}, make, ringed)
            self.refused_fields(FlowError, Bare, {"where": "m", "at": 0, "found": "x"}, make, bare)
        self.assertIsInstance(Run(program=program(SUM)), Run)

    def test_of_ins(self):
        some = [("a", 1), ("b", 4, (A,)), ("c", 1, (A,)), ("d", (2, 4), (A, ("c", 0)))]
        one = program(node("m", some, [("x", 1)], [], let("x", n("a"))))
        run = Run(one)
        good = [{"a": 0}, {"a": 1, "b": 0, "c": 1}, {"d": (0, 15), "c": 0, "b": 15, "a": 1}]
        bad = [
            {}, {"a": 1}, {"a": 0, "b": 3}, {"a": 1, "b": 3}, {"a": 1, "b": 3, "c": 0}, {"a": 1, "b": 3, "c": 1, "d": (1, 2)},
            {"a": 2}, {"a": -1}, {"a": True}, {"a": False}, {"a": None}, {"a": "0"}, {"a": (0,)}, {"a": 0, "x": 1}, {"a": 0, "z": 1},
            {"a": 0, 1: 1}, {"a": 0, ("a",): 0}, {"b": 1}, {"a": 1, "b": 16, "c": 1}, {"a": 1, "b": 3, "c": 0, "d": [1, 2]},
            {"a": 1, "b": 3, "c": 0, "d": (1, 16)}, {"a": 1, "b": 3, "c": 0, "d": (1, True)}, {"a": 1, "b": 3, "c": 0, "d": (1, 2, 3)},
            {"a": 1, "b": 3, "c": 0, "d": 1}, {"a": 1, "b": 3, "c": True, "d": (1, 2)}, {"a": 1, "b": 3, "c": 2}, [("a", 0)], ("a",),
        ]
        for ins in bad + any_things():
            self.refused(FlowError, NoIns, ins, run.beat, ins)
            self.assertEqual((run.beats(), run.kept(), run.worth((), "a")), (0, {}, None))
        for at, ins in enumerate(good):
            run.beat(ins=ins)
            self.assertEqual(run.beats(), at + 1)

    def test_without_ins(self):
        run = Run(program(COUNT))
        for thing in any_things():
            if thing != {}:
                self.refused(FlowError, NoIns, thing, run.beat, thing)
        self.assertEqual([run.beat({}) for _ in range(3)], [{"c": 1}, {"c": 2}, {"c": 3}])

    def test_what_is_handed_in_stays(self):
        run = Run(program(SUM))
        ins = {"a": 3}
        told = run.beat(ins)
        told["s"] = 9
        ins["a"] = 5
        self.assertEqual((run.worth((), "a"), run.worth((), "s"), run.kept()), (3, 3, {("last", (), "s", 0): 3}))

    def test_behind_a_refusal_all_goes_on_as_ahead(self):
        run, other = Run(program(SUM)), Run(program(SUM))
        for w in (3, 5, 7):
            self.refused(FlowError, NoIns, None, run.beat, None)
            self.assertEqual(run.beat({"a": w}), other.beat({"a": w}))
            self.refused(FlowError, NoIns, 16, lambda ins: run.beat(ins), 16)
            self.assertEqual((run.kept(), run.worth((), "s"), run.beats()), (other.kept(), other.worth((), "s"), other.beats()))

    def test_the_120th_beat_and_one_more(self):
        run = Run(program(SUM))
        for at in range(120):
            self.assertEqual(run.beat({"a": 1}), {"s": (at + 1) % 16})
        for ins in ({"a": 1}, None, [], "a"):
            fields = {"found": 120}
            self.refused_fields(Barred, Over, fields, run.beat, ins)
        self.assertEqual((run.beats(), run.worth((), "s")), (120, 8))


class RunAll(RunCase):
    def test_what_comes(self):
        self.assertEqual(run_all(program=program(SUM), rows=({"a": 1}, {"a": 2})), [{"s": 1}, {"s": 3}])
        self.assertEqual(run_all(program(SUM), []), [])
        self.assertEqual(len(run_all(program(SUM), [{"a": 1}] * 120)), 120)

    def test_told_dicts_are_unlike_ones(self):
        told = run_all(program(SUM), [{"a": 0}] * 2)
        told[0]["s"] = 4
        self.assertEqual(told[1], {"s": 0})

    def test_what_is_no_list_of_at_most_120(self):
        for thing in any_things():
            if not isinstance(thing, (list, tuple)):
                self.refused(FlowError, NoIns, thing, run_all, program(SUM), thing)
        rows = [{"a": 1}] * 121
        self.refused(FlowError, NoIns, rows, run_all, program(SUM), rows)
        rows = [None] * 121
        self.refused(FlowError, NoIns, rows, run_all, program(SUM), rows)

    def test_then_beat_by_beat(self):
        bad = {"a": 16}
        self.refused(FlowError, NoIns, bad, run_all, program(SUM), [{"a": 1}, bad, None])


if __name__ == "__main__":
    import unittest
    unittest.main()
