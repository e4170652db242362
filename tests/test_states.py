"""Promise 43: blocks of states, their ways, and what is entered anew."""

from beatflows.runs import Run
from tests.beside import BesideCase
from tests.nodes import SUM, block, last, let, lit, n, node, program, state

YES, NO = lit(1, 1), lit(1, 0)
COUNT = node("count", [], [("c", 4, (), 0)], [], let("c", ("add", last("c"), lit(4, 1))))


def counted():
    """Two lets of a state: how many turns x was told there since its begin, and whether it is the first of them."""
    return [let("x", ("call", "count", (), None)), let("y", ("first", lit(4, 7), lit(4, 8)))]


def resting():
    return [let("x", lit(4, 0)), let("y", lit(4, 0))]


class StateCase(BesideCase):
    some = [("g", 1), ("h", 1)]

    def made(self, *states, some=None, more=(), inner=()):
        outs = [("x", 4, (), 0), ("y", 4, (), 0)]
        return program(COUNT, SUM, node("m", some or self.some, outs, inner, block(*states), *more))

    def xs(self, one, rows):
        return [(told["x"], told["y"]) for told in self.beside(one, [{"g": g, "h": h} for g, h in rows])]

    def gone(self, one, truths):
        return self.xs(one, [(truth, 0) for truth in truths])


class Ways(StateCase):
    def test_a_block_begins_in_its_first_state_and_stays(self):
        for states in (("s", "t"), ("t", "s")):
            lets = {"s": [let("x", lit(4, 1)), let("y", n("x"))], "t": [let("x", lit(4, 2)), let("y", n("x"))]}
            one = self.made(*[state(name, lets[name]) for name in states])
            worth = 1 if states[0] == "s" else 2
            self.assertEqual(self.gone(one, [0, 1, 0]), [(worth, worth)] * 3)

    def test_strong_ways_lead_at_once(self):
        for anew, back in ((0, [(2, 8), (3, 8)]), (1, [(1, 7), (2, 8)])):
            one = self.made(state("s", counted(), [(n("g"), "t", 0)]), state("t", resting(), [(n("g"), "s", anew)]))
            self.assertEqual(self.gone(one, [0, 1, 0, 1, 0]), [(1, 7), (0, 0), (0, 0)] + back)

    def test_weak_ways_lead_to_the_next_turn(self):
        for anew, back in ((0, [(3, 8), (4, 8)]), (1, [(1, 7), (2, 8)])):
            one = self.made(state("s", counted(), (), [(n("g"), "t", 0)]), state("t", resting(), (), [(n("g"), "s", anew)]))
            self.assertEqual(self.gone(one, [0, 1, 0, 1, 0, 0]), [(1, 7), (2, 8), (0, 0), (0, 0)] + back)

    def test_at_most_one_way_at_a_beat(self):
        one = self.made(state("s", counted(), [(n("g"), "t", 0)]), state("t", resting(), [(n("g"), "s", 0)]))
        self.assertEqual(self.gone(one, [1, 1, 1, 1]), [(0, 0), (1, 7), (0, 0), (2, 8)])

    def test_no_weak_way_behind_a_strong_one(self):
        one = self.made(state("s", counted(), [(n("g"), "t", 0)], [(n("g"), "s", 1)]),
                        state("t", resting(), (), [(n("g"), "s", 0)]))
        # At the first beat g leads to t; only at the second one t's weak way is looked at.
        self.assertEqual(self.gone(one, [1, 1, 0, 0]), [(0, 0), (0, 0), (1, 7), (2, 8)])

    def test_the_first_way_in_order(self):
        lets = {name: [let("x", lit(4, at)), let("y", lit(4, at))] for at, name in enumerate("stu")}
        for first, awaited in (("t", 1), ("u", 2)):
            other = "u" if first == "t" else "t"
            ways = [(NO, other, 0), (n("g"), first, 0), (YES, other, 0)]
            states = [state(name, lets[name], ways if name == "s" else ()) for name in "stu"]
            self.assertEqual(self.gone(self.made(*states), [1]), [(awaited, awaited)])
            states = [state(name, lets[name], (), ways if name == "s" else ()) for name in "stu"]
            self.assertEqual(self.gone(self.made(*states), [1, 0]), [(0, 0), (awaited, awaited)])

    def test_ways_of_the_state_in_which_the_block_is_alone(self):
        lets = {name: [let("x", lit(4, at)), let("y", lit(4, at))] for at, name in enumerate("stu")}
        one = self.made(state("s", lets["s"], [(n("h"), "t", 0)]), state("t", lets["t"], [(n("g"), "u", 0)]),
                        state("u", lets["u"], (), [(n("g"), "s", 0)]))
        rows = [(1, 0), (0, 1), (0, 1), (1, 0), (1, 1), (0, 1)]
        self.assertEqual(self.xs(one, rows), [(0, 0), (1, 1), (1, 1), (2, 2), (2, 2), (1, 1)])

    def test_weak_conditions_read_any_flow(self):
        done = ("same", n("x"), lit(4, 3))
        one = self.made(state("s", counted(), (), [(done, "t", 0)]), state("t", resting(), (), [(n("k"), "s", 0)]),
                        inner=[("k", 1)], more=[let("k", n("g"))])
        self.assertEqual(self.gone(one, [0, 0, 0, 0, 1, 0]), [(1, 7), (2, 8), (3, 8), (0, 0), (0, 0), (4, 8)])

    def test_strong_conditions_by_last_worths(self):
        done = ("same", last("x"), lit(4, 2))
        one = self.made(state("s", counted(), [(done, "t", 0)]), state("t", resting()))
        self.assertEqual(self.gone(one, [0, 0, 0, 0]), [(1, 7), (2, 8), (0, 0), (0, 0)])

    def test_last_worths_go_on_from_state_to_state(self):
        up = [let("x", ("add", last("x"), lit(4, 3))), let("y", lit(4, 0))]
        down = [let("x", ("sub", last("x"), lit(4, 1))), let("y", lit(4, 1))]
        one = self.made(state("s", up, [(n("g"), "t", 1)]), state("t", down, [(n("h"), "s", 1)]))
        self.assertEqual([x for x, _ in self.xs(one, [(0, 0), (0, 0), (1, 0), (0, 0), (0, 1)])], [3, 6, 5, 4, 7])


class Anew(StateCase):
    def test_a_way_to_its_own_state(self):
        for strong in (True, False):
            ways = [(n("g"), "s", 1)]
            one = self.made(state("s", counted(), ways if strong else (), () if strong else ways))
            late = [(1, 7), (2, 8), (1, 7), (2, 8)] if strong else [(1, 7), (2, 8), (3, 8), (1, 7)]
            self.assertEqual(self.gone(one, [0, 0, 1, 0]), late)
            ways = [(n("g"), "s", 0)]
            one = self.made(state("s", counted(), ways if strong else (), () if strong else ways))
            self.assertEqual(self.gone(one, [0, 1, 1, 0]), [(1, 7), (2, 8), (3, 8), (4, 8)])

    def test_anew_by_a_weak_way_where_a_strong_way_leads_on(self):
        # From s weakly anew to t; there h leads on to u at once, without a turn of t's lets.
        states = [
            state("s", resting(), (), [(n("g"), "t", 1)]),
            state("t", counted(), [(n("h"), "u", 0)], [(n("g"), "s", 0)]),
            state("u", [let("x", lit(4, 9)), let("y", lit(4, 9))], (), [(n("g"), "t", 0)]),
        ]
        one = self.made(*states)
        run = Run(one)
        seen = []
        for g, h in ((1, 0), (0, 0), (1, 0), (1, 0), (0, 1), (1, 0), (0, 0)):
            told = run.beat({"g": g, "h": h})
            seen.append((told["x"], run.kept()["last", ((2, 0),), "c", 0], run.kept()["first", (), 3, 0]))
        self.assertEqual(seen, [(0, 0, 1), (1, 1, 0), (2, 2, 0), (0, 2, 0), (9, 0, 1), (9, 0, 1), (1, 1, 0)])

    def test_anew_is_only_when_the_next_turn_begins(self):
        one = self.made(state("s", counted(), (), [(n("g"), "s", 1)]))
        run = Run(one)
        run.beat({"g": 1, "h": 0})
        kept = run.kept()
        self.assertEqual((kept["last", ((0, 0),), "c", 0], kept["first", (), 1, 0], kept["anew", (), 0]), (1, 0, 1))
        self.assertEqual(run.beat({"g": 0, "h": 0}), {"x": 1, "y": 7})

    def test_the_goals_lets_alone(self):
        one = self.made(state("s", counted(), [(n("g"), "t", 1)]), state("t", counted(), [(n("g"), "s", 0)]))
        rows = [0, 1, 0, 1, 0, 1, 0]
        # s goes on, t is begun anew each time.
        self.assertEqual(self.gone(one, rows), [(1, 7), (1, 7), (2, 8), (2, 8), (3, 8), (1, 7), (2, 8)])

    def test_beneath_and_further_beneath(self):
        deep = node("deep", [], [("x", 4)], [], block(
            state("s", [let("x", ("call", "count", (), None))], (), [(("same", n("x"), lit(4, 2)), "t", 0)]),
            state("t", [let("x", lit(4, 9))]),
        ))
        outs = [("x", 4)]
        one = program(COUNT, deep, node("m", [("g", 1)], outs, [], block(
            state("s", [let("x", ("call", "deep", (), None))], [(n("g"), "s", 1)]))))
        self.assertEqual([told["x"] for told in self.beside(one, [{"g": g} for g in (0, 0, 0, 1, 0, 0)])], [1, 2, 9, 1, 2, 9])

    def test_by_every_in_a_state(self):
        lets = [let("x", ("call", "count", (), "h")), let("y", lit(4, 0))]
        one = self.made(state("s", lets, [(n("g"), "t", 0)]), state("t", resting(), [(n("g"), "s", 0)]))
        # Where the state doesn't run, every makes nothing anew.
        rows = [(0, 0), (0, 0), (1, 1), (0, 1), (1, 0), (0, 1), (0, 0)]
        self.assertEqual([x for x, _ in self.xs(one, rows)], [1, 2, 0, 0, 3, 1, 2])

    def test_loops_in_states(self):
        outs = [("x", (2, 4))]
        one = program(SUM, node("m", [("g", 1)], outs, [], block(
            state("s", [let("x", ("map", "sum", (lit((2, 4), (1, 3)),), None))], [(n("g"), "s", 1)]))))
        told = self.beside(one, [{"g": g} for g in (0, 0, 1, 0)])
        self.assertEqual([row["x"] for row in told], [(1, 3), (2, 6), (1, 3), (2, 6)])

    def test_blocks_of_an_instance_begun_anew(self):
        inner = node("inner", [("g", 1)], [("x", 4)], [], block(
            state("s", [let("x", lit(4, 1))], (), [(n("g"), "t", 1)]),
            state("t", [let("x", ("first", lit(4, 2), lit(4, 3)))]),
        ))
        one = program(inner, node("m", [("g", 1), ("h", 1)], [("x", 4)], [], let("x", ("call", "inner", (n("g"),), "h"))))
        rows = [(1, 0), (0, 0), (0, 0), (0, 1), (1, 0), (0, 1), (0, 0)]
        told = self.beside(one, [{"g": g, "h": h} for g, h in rows])
        self.assertEqual([row["x"] for row in told], [1, 2, 3, 1, 1, 1, 1])


class Conditions(StateCase):
    def test_firsts_in_conditions(self):
        one = self.made(state("s", [let("x", lit(4, 1)), let("y", lit(4, 1))], (), [(("first", YES, NO), "t", 0)]),
                        state("t", [let("x", lit(4, 2)), let("y", lit(4, 2))], (), [(("first", YES, NO), "s", 0)]))
        # All conditions are worked out at each turn, so t's first is over when t begins.
        self.assertEqual(self.gone(one, [0, 0, 0]), [(1, 1), (2, 2), (2, 2)])
        one = self.made(state("s", [let("x", lit(4, 1)), let("y", lit(4, 1))], [(("first", YES, NO), "t", 0)]),
                        state("t", [let("x", lit(4, 2)), let("y", lit(4, 2))], [(("first", YES, NO), "s", 0)]))
        self.assertEqual(self.gone(one, [0, 0, 0]), [(2, 2), (2, 2), (2, 2)])

    def test_they_are_not_entered_anew(self):
        one = self.made(state("s", counted(), [(("and", n("g"), ("first", NO, YES)), "s", 1)]))
        self.assertEqual(self.gone(one, [1, 1, 1, 0]), [(1, 7), (1, 7), (1, 7), (2, 8)])

    def test_they_begin_anew_with_the_instance(self):
        inner = node("inner", [], [("x", 4)], [], block(
            state("s", [let("x", lit(4, 1))], [(("first", YES, NO), "t", 0)]), state("t", [let("x", lit(4, 2))], (), [(YES, "s", 0)])))
        one = program(inner, node("m", [("h", 1)], [("x", 4)], [], let("x", ("call", "inner", (), "h"))))
        told = self.beside(one, [{"h": h} for h in (0, 0, 0, 1, 0)])
        # Behind a strong way no weak one is taken, so t runs twice.
        self.assertEqual([row["x"] for row in told], [2, 2, 1, 2, 2])

    def test_turns_alone_count(self):
        inner = node("inner", [("g", 1)], [("x", 4)], [], block(
            state("s", [let("x", lit(4, 1))], (), [(n("g"), "t", 0)]), state("t", [let("x", lit(4, 2))], (), [(n("g"), "s", 0)])))
        some = [("a", 1), ("g", 1)]
        outs = [("x", 4, (("a", 1),))]
        one = program(inner, node("m", some, outs, [], let("x", ("call", "inner", (("when", n("g"), "a", 1),), None))))
        rows = [(1, 1), (0, 1), (0, 1), (1, 0), (1, 1), (0, 1), (1, 0)]
        told = self.beside(one, [{"a": a, "g": g} for a, g in rows])
        self.assertEqual([row.get("x") for row in told], [1, None, None, 2, 2, None, 1])


class SeveralBlocks(StateCase):
    def test_each_goes_its_own_way(self):
        outs = [("x", 4), ("y", 4)]
        blocks = [
            block(state("s", [let(name, lit(4, 1))], [(n(way), "t", 0)]), state("t", [let(name, lit(4, 2))], [(n(way), "s", 0)]))
            for name, way in (("x", "g"), ("y", "h"))
        ]
        one = program(node("m", self.some, outs, [], *blocks))
        self.assertEqual(self.xs(one, [(0, 0), (1, 0), (0, 1), (1, 1), (0, 0)]), [(1, 1), (2, 1), (2, 2), (1, 1), (1, 1)])

    def test_what_is_anew_in_one_is_not_in_another(self):
        outs = [("x", 4), ("y", 4)]
        blocks = [
            block(state("s", [let(name, ("call", "count", (), None))], [(n(way), "s", 1)])) for name, way in (("x", "g"), ("y", "h"))
        ]
        one = program(COUNT, node("m", self.some, outs, [], *blocks))
        self.assertEqual(self.xs(one, [(0, 0), (0, 0), (1, 0), (0, 1), (1, 1)]), [(1, 1), (2, 2), (1, 3), (2, 1), (1, 1)])
        blocks = [
            block(state("s", [let(name, ("first", lit(4, 7), lit(4, 8)))], (), [(n(way), "s", 1)])) for name, way in (("x", "g"), ("y", "h"))
        ]
        one = program(node("m", self.some, outs, [], *blocks))
        self.assertEqual(self.xs(one, [(0, 0), (1, 0), (0, 1), (1, 1), (0, 0)]), [(7, 7), (8, 8), (7, 8), (8, 7), (7, 7)])

    def test_one_reads_the_other(self):
        outs = [("x", 4), ("y", 4)]
        one = program(node("m", self.some, outs, [], block(
            state("s", [let("y", lit(4, 1))], [(("same", n("x"), lit(4, 2)), "t", 0)]), state("t", [let("y", lit(4, 5))])),
            block(state("s", [let("x", lit(4, 1))], [(n("g"), "t", 0)]), state("t", [let("x", lit(4, 2))]))))
        self.assertEqual(self.xs(one, [(0, 0), (1, 0), (0, 0)]), [(1, 1), (2, 5), (2, 5)])


if __name__ == "__main__":
    import unittest
    unittest.main()
