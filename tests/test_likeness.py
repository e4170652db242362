"""Promise 104: programs that tell alike, by paired memories, and those that a run parts."""

import random

from beatflows.errors import Bare, Barred, FlowError, NoNumber, NoProgram, Ringed, TooMany, Unfit
from beatflows.opening import opened
from beatflows.programs import Program
from beatflows.sayings import likeness, shows_alike, shows_parted
from tests.beside import flow, opened_by_chance
from tests.helper import RefusalCase, any_things
from tests.nodes import last, let, lit, n, node, program
from tests.test_sayings import first_of, plain_ins, step
from tests.test_traces import BARE, RINGED, too_many


def one_of(ins, outs, *lets, inner=(), name="main"):
    return program(node(name, list(ins), list(outs), list(inner), *lets))


# Tells each beat whether an even or an odd many of ones came: by one bit, and by two.
ONE_BIT = one_of([("u", 1)], [("odd", 1, (), 0)], let("odd", ("xor", last("odd"), n("u"))))
TWO_BITS = one_of([("u", 1)], [("odd", 1, (), 1)], let("k", ("add", last("k"), ("wide", 2, n("u")))), let("odd", ("bit", 0, n("k"))), inner=[("k", 2, (), 2)], name="other")

# Parted when four ones came.
FOUR = one_of([("u", 1)], [("odd", 1)], let("k", ("pick", ("same", last("k"), lit(3, 4)), last("k"), ("add", last("k"), ("wide", 3, n("u"))))),
              let("odd", ("pick", ("same", n("k"), lit(3, 4)), lit(1, 1), ("bit", 0, n("k")))), inner=[("k", 3, (), 0)])


class LikenessCase(RefusalCase):
    def unlike(self, one, other, where, why, found):
        fields = {"where": where, "at": -1, "why": why, "found": found}
        self.refused_fields(FlowError, Unfit, fields, likeness, one, other)
        self.refused_fields(FlowError, Unfit, fields, shows_alike, one, other, None)
        self.refused_fields(FlowError, Unfit, fields, shows_parted, one, other, None)


class Likeness(LikenessCase):
    def test_alike(self):
        told = likeness(one=ONE_BIT, other=TWO_BITS)
        self.assertEqual(told, ("alike", [((0,), (0,)), ((0,), (2,)), ((1,), (1,)), ((1,), (3,))]))
        self.assertEqual(likeness(TWO_BITS, ONE_BIT), ("alike", [((at,), (at % 2,)) for at in range(4)]))
        self.assertEqual(likeness(ONE_BIT, ONE_BIT, most=2), ("alike", [((0,), (0,)), ((1,), (1,))]))

    def test_parted(self):
        told = likeness(ONE_BIT, FOUR)
        self.assertEqual(told, ("parted", [{flow("u"): 1}] * 4))
        self.told_true(shows_parted(ONE_BIT, FOUR, told))
        self.told_true(shows_parted(FOUR, ONE_BIT, told))

    def test_silent_at_other_beats(self):
        # Of the same ins and outs, but silent where what stands in the clock differs.
        ins, outs = [("u", 1)], [("t", 1), ("x", 1, (("t", 1),))]
        one = one_of(ins, outs, let("t", n("u")), let("x", ("when", n("u"), "t", 1)))
        other = one_of(ins, outs, let("t", lit(1, 1)), let("x", ("when", lit(1, 1), "t", 1)))
        self.assertEqual(likeness(one, other), ("parted", [{flow("u"): 0}]))

    def test_most(self):
        self.assertEqual(len(likeness(ONE_BIT, TWO_BITS, most=4)[1]), 4)
        self.refused_fields(Barred, TooMany, {"many": 4}, likeness, ONE_BIT, TWO_BITS, most=3)
        self.assertEqual(likeness(ONE_BIT, FOUR, most=4)[0], "parted")
        self.refused_fields(Barred, TooMany, {"many": 4}, likeness, ONE_BIT, FOUR, most=3)
        for thing in [0, 401, -1, True, None, "1", (1,), [1], 10 ** 29, {}]:
            self.refused(FlowError, NoNumber, thing, likeness, ONE_BIT, TWO_BITS, most=thing)
        self.assertRaises(TypeError, likeness, ONE_BIT, TWO_BITS, 200)

    def test_200_pairs_where_nothing_else_is_said(self):
        def one(many):
            return one_of([], [("x", 1)], let("x", lit(1, 1)), let("k", ("pick", ("same", last("k"), lit(8, many - 1)), lit(8, 0), ("add", last("k"), lit(8, 1)))), inner=[("k", 8, (), 0)])
        self.assertEqual(len(likeness(one(200), one(100))[1]), 200)
        self.refused_fields(Barred, TooMany, {"many": 201}, likeness, one(201), one(3))

    def test_unlike_ins_and_outs(self):
        lets = [let("x", lit(1, 1)), let("y", lit(1, 1))]

        def made(ins, outs, name="main"):
            return one_of(ins, outs, *lets[:len(outs)], name=name)
        base = made([("a", 1), ("b", 2)], [("x", 1), ("y", 1)])
        self.unlike(base, made([("a", 1), ("b", 3)], [("x", 1), ("y", 1)], "far"), "far", "ins", "b")
        self.unlike(base, made([("c", 1), ("b", 2)], [("x", 1)]), "main", "ins", "c")
        self.unlike(base, made([("b", 2), ("a", 1)], [("x", 1), ("y", 1)]), "main", "ins", "b")
        self.unlike(base, made([("a", 1), ("b", 2, (("a", 1),))], [("x", 1), ("y", 1)]), "main", "ins", "b")
        self.unlike(base, made([("a", 1)], [("x", 1), ("y", 1)]), "main", "ins", "b")
        self.unlike(base, made([], [("x", 1)]), "main", "ins", "a")
        self.unlike(base, made([("a", 1), ("b", 2), ("c", 1)], [("x", 1), ("y", 1)]), "main", "ins", "c")
        self.unlike(base, made([("a", 1), ("b", 2)], [("x", 1)]), "main", "outs", "y")
        self.unlike(made([("a", 1), ("b", 2)], [("x", 1)]), base, "main", "outs", "y")
        clocked = one_of([("a", 1), ("b", 2)], [("x", 1), ("y", 1, (("a", 1),))], *lets)
        self.unlike(base, clocked, "main", "outs", "y")
        wide = one_of([("a", 1), ("b", 2)], [("x", (2, 1)), ("y", 1)], let("x", lit((2, 1), (1, 1))), lets[1])
        self.unlike(base, wide, "main", "outs", "x")
        # Firsts count for nothing, nor what the main ones are called.
        firsts = one_of([("a", 1), ("b", 2)], [("x", 1, (), 1), ("y", 1, (), 0)], *lets, name="far")
        self.assertEqual(likeness(base, firsts), ("alike", [((), ())]))

    def test_refusals_and_which_goes(self):
        bad = [Program([RINGED]), Program([BARE]), too_many()]
        classes = [Ringed, Bare, TooMany]
        for function, things in ((likeness, ()), (shows_alike, (None,)), (shows_parted, (None,))):
            for thing in any_things():
                if not isinstance(thing, Program):
                    self.refused(FlowError, NoProgram, thing, function, thing, thing, *things)
                    self.refused(FlowError, NoProgram, thing, function, ONE_BIT, thing, *things)
                    for one, awaited in zip(bad, classes):
                        self.assertRaises(awaited, function, one, thing, *things)
            for one, awaited in zip(bad, classes):
                self.assertRaises(awaited, function, ONE_BIT, one, *things)
        # The number goes ahead of what doesn't fit, this ahead of too many ins.
        eight = one_of([("a", 8), ("b", 1)], [("x", 1)], let("x", lit(1, 1)))
        self.refused_fields(FlowError, NoNumber, {"found": 0}, likeness, ONE_BIT, eight, most=0)
        self.unlike(ONE_BIT, eight, "main", "ins", "a")
        for function, things in ((likeness, ()), (shows_alike, (None,)), (shows_parted, (None,))):
            self.refused_fields(Barred, TooMany, {"many": 257}, function, eight, eight, *things)
        self.assertRaises(Bare, likeness, ONE_BIT, Program([BARE]), most=0)

    def test_by_chance(self):
        # Each beside one of which some literals and firsts are others.
        seen = {"alike": 0, "parted": 0, "many": 0}
        for seed, told, flat in opened_by_chance(160):
            chance = random.Random(seed)
            other = self.otherwise(told, chance)
            if other is None or sum(one[1] for one in flat.ins()) > 4:
                continue
            awaited = self.plainly(flat, opened(other), 40)
            seen[awaited[0]] += 1
            if awaited[0] == "many":
                self.refused_fields(Barred, TooMany, {"many": 41}, likeness, told, other, most=40)
                continue
            paper = likeness(told, other, most=40)
            if awaited[0] == "alike":
                self.assertEqual(paper, awaited)
                self.told_true(shows_alike(told, other, paper))
            else:
                self.assertEqual((paper[0], len(paper[1])), awaited)
                self.told_true(shows_parted(told, other, paper))
                self.told_false(shows_parted(told, told, paper))
        self.assertTrue(min(seen["alike"], seen["parted"]) > 5, seen)

    def otherwise(self, told, chance):
        def changed(thing):
            if isinstance(thing, tuple) and thing[:1] == ("lit",) and len(thing) == 3 and isinstance(thing[1], int) and chance.random() < 0.15:
                return ("lit", thing[1], chance.randrange(2 ** thing[1]))
            return tuple(changed(one) for one in thing) if isinstance(thing, tuple) else thing
        try:
            other = Program([(*one[:4], changed(one[4])) for one in told.nodes()])
            opened(other)
        except (FlowError, LookupError):
            return None
        return other

    def plainly(self, flat, other, most):
        first = (first_of(flat), first_of(other))
        seen, edge, beats = {first}, [first], 0
        while edge:
            beats += 1
            if len(seen) > most:
                return ("many",)
            fresh, parted = [], False
            for one, two in edge:
                for ins in plain_ins(flat):
                    told, behind = step(flat, one, ins)
                    told_too, behind_too = step(other, two, ins)
                    parted = parted or told != told_too
                    fresh.append((behind, behind_too))
            if parted:
                return "parted", beats
            edge = [pair for pair in dict.fromkeys(fresh) if pair not in seen]
            seen |= set(edge)
        return "alike", sorted(seen)

    def test_told_lists_and_dicts_are_new(self):
        rows = likeness(ONE_BIT, FOUR)[1]
        for one in rows:
            one.clear()
        rows.clear()
        self.assertEqual(likeness(ONE_BIT, FOUR), ("parted", [{flow("u"): 1}] * 4))
        likeness(ONE_BIT, TWO_BITS)[1].clear()
        self.assertEqual(len(likeness(ONE_BIT, TWO_BITS)[1]), 4)


class Shown(LikenessCase):
    def setUp(self):
        self.pairs = [((0,), (0,)), ((0,), (2,)), ((1,), (1,)), ((1,), (3,))]

    def test_alike(self):
        for pairs in (self.pairs, self.pairs[::-1], tuple(self.pairs), self.pairs + self.pairs):
            self.told_true(shows_alike(one=ONE_BIT, other=TWO_BITS, thing=("alike", pairs)))
        for at in range(4):
            self.told_false(shows_alike(ONE_BIT, TWO_BITS, ("alike", self.pairs[:at] + self.pairs[at + 1:])))
        for extra in (((0,), (1,)), ((0,),), ((0,), (0,), (0,)), [(0,), (0,)], ((0,), (4,)), ((2,), (0,)), ((True,), (1,)), ((0,), [0]), (0, 0), None, ((), ()), {}):
            self.told_false(shows_alike(ONE_BIT, TWO_BITS, ("alike", self.pairs + [extra])))
        for thing in (("parted", self.pairs), ("alike",), ("alike", self.pairs, 0), ["alike", self.pairs], ("alike", []), ("alike", {}), (None, self.pairs)):
            self.told_false(shows_alike(ONE_BIT, TWO_BITS, thing))
        self.told_false(shows_alike(ONE_BIT, FOUR, ("alike", [((0,), (0,)), ((1,), (1,)), ((0,), (2,)), ((1,), (3,)), ((0,), (4,)), ((1,), (4,))])))

    def test_parted(self):
        u = flow("u")
        self.told_true(shows_parted(one=ONE_BIT, other=FOUR, thing=("parted", [{u: 1}, {u: 0}, {u: 1}, {u: 1}, {u: 1}])))
        for rows in ([{u: 1}] * 3, [{u: 1}] * 5, [{u: 0}] * 4, [], [{u: 1}, {u: 1}, {u: 1}, {}], [{u: 1}, {u: 1}, {u: 1}, {u: True}], None, {}, [None] * 4):
            self.told_false(shows_parted(ONE_BIT, FOUR, ("parted", rows)))
        for thing in (("alike", [{u: 1}] * 4), ["parted", [{u: 1}] * 4], ("parted", [{u: 1}] * 4, 1)):
            self.told_false(shows_parted(ONE_BIT, FOUR, thing))
        self.told_true(shows_parted(ONE_BIT, FOUR, ("parted", [{u: 0}] * 300 + [{u: 1}] * 4)))

    def test_any_things(self):
        for thing in any_things():
            for function in (shows_alike, shows_parted):
                self.told_false(function(ONE_BIT, TWO_BITS, thing))
                for word in ("alike", "parted"):
                    self.told_false(function(ONE_BIT, TWO_BITS, (word, thing)))
                    self.told_false(function(ONE_BIT, TWO_BITS, (word, [thing])))


if __name__ == "__main__":
    import unittest
    unittest.main()
