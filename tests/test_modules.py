"""Promises 111 and 112: modules judged by faces, and Mades joined to programs."""

import itertools
import random

from beatflows.causes import hangs
from beatflows.errors import Bare, Barred, FlowError, Missing, NoImport, NoModules, NoNodes, NotThere, Ringed, TooMany, Unfit
from beatflows.modules import Made, joined
from beatflows.programs import Program
from beatflows.runs import Run
from beatflows.terms import lets_of, renamed
from tests.chance import some_ins, some_program
from tests.helper import SMALL, RefusalCase, any_things
from tests.nodes import CROSS, PLUS, SUM, TWICE, block, last, let, lit, n, node, state


def calls(name, called, every=None):
    """A node of one in and one out, 4 wide, that hands its in on to another one."""
    return node(name, [("a", 4)], [("b", 4)], [], let("b", ("call", called, (n("a"),), every)))


def in_full(module, one):
    """A node as it is called in a program: its own ones by the module's name and their own."""
    names = {called: f"{module}.{called}" for called in ("twice", "plus", "sum", "cross", "one", "two", "three")}

    def right(told):
        return renamed(told, {}, nodes=names)
    name, ins, outs, inner, lets = one
    told = []
    for item in lets:
        if item[0] == "let":
            told.append(("let", item[1], right(item[2])))
        else:
            told.append(("states", tuple((who, tuple(("let", names_told, right(what)) for _, names_told, what in own), strong, weak)
                                         for who, own, strong, weak in item[1])))
    return names[name], ins, outs, inner, tuple(told)


LIB = ("lib", (), (TWICE, SUM))
MID = ("mid", ("lib",), (calls("one", "lib.twice"), calls("two", "one")))
TOP = ("top", ("mid", "lib"), (calls("one", "mid.two"), calls("two", "lib.sum"), calls("three", "one")))


def three():
    lib = Made(LIB)
    mid = Made(MID, [lib])
    return lib, mid, Made(TOP, [lib, mid])


class MadeCase(RefusalCase):
    def unfit_made(self, module, uses, where, at, why, found):
        self.refused_fields(FlowError, Unfit, {"where": where, "at": at, "why": why, "found": found}, Made, module, uses)


class Mades(MadeCase):
    def test_one_that_uses_none(self):
        made = Made(module=LIB)
        self.assertEqual((made.name(), made.uses()), ("lib", ()))
        self.assertEqual(made.nodes(), (in_full("lib", TWICE), in_full("lib", SUM)))
        self.assertEqual(made.face(), {"lib.twice": ((("a", 4, ()),), (("b", 4, (), None),), {"b": ["a"]}),
                                       "lib.sum": ((("a", 4, ()),), (("s", 4, (), 0),), {"s": ["a"]})})
        self.assertEqual(list(made.face()), ["lib.twice", "lib.sum"])

    def test_several_near_and_far(self):
        _, mid, top = three()
        self.assertEqual(mid.nodes(), (("mid.one", *in_full("mid", calls("one", "lib.twice"))[1:]), in_full("mid", calls("two", "one"))))
        self.assertEqual(mid.nodes()[1][4][0][2][1], "mid.one")
        self.assertEqual((top.name(), top.uses()), ("top", ("mid", "lib")))
        self.assertEqual([one[0] for one in top.nodes()], ["top.one", "top.two", "top.three"])
        self.assertEqual(top.face()["top.three"][2], {"b": ["a"]})

    def test_hangs_through_faces(self):
        lib = Made(("lib", (), (CROSS,)))
        use = node("use", [("u", 4), ("v", 4)], [("x", 4), ("y", 4)], [], let("x y", ("call", "lib.cross", (n("u"), n("v")), None)))
        made = Made(("far", ("lib",), (use,)), [lib])
        self.assertEqual(made.face()["far.use"][2], {"x": ["v"], "y": ["u"]})
        # A ring that there would be if each out hung on each in.
        ok = node("ok", [("u", 4)], [("y", 4)], [("x", 4)], let("x y", ("call", "lib.cross", (n("u"), n("x")), None)))
        with self.assertRaises(Ringed) as caught:
            Made(("far", ("lib",), (ok,)), [lib])
        self.assertEqual((caught.exception.where, caught.exception.ring), ("far.ok", ["x"]))
        good = node("ok", [("u", 4)], [("y", 4)], [("x", 4)], let("x y", ("call", "lib.cross", (n("x"), n("u")), None)))
        self.assertEqual(Made(("far", ("lib",), (good,)), [lib]).face()["far.ok"][2], {"y": ["u"]})

    def test_hangs_on_rows_and_none(self):
        first = node("two", [("r", (2, 3)), ("w", 5), ("t", 1)], [("x", (3, 2)), ("y", 1), ("z", 3)], [],
                     let("x", lit((3, 2), (1, 2, 3))), let("y", ("less", ("at", 1, n("r")), ("wide", 3, n("w")))), let("z", ("pick", n("t"), ("at", 0, n("r")), lit(3, 0))))
        one = node("one", [("r", (2, 3)), ("w", 5), ("t", 1)], [("x", (3, 2)), ("y", 1), ("z", 3)], [], let("x y z", ("call", "lib.two", (n("r"), n("w"), n("t")), None)))
        made = Made(("use", ("lib",), (one,)), [Made(("lib", (), (first,)))])
        self.assertEqual(made.face()["use.one"][2], {"x": [], "y": ["r", "w"], "z": ["r", "t"]})

    def test_calls_in_states(self):
        held = node("one", [("a", 4), ("t", 1)], [("b", 4)], [], block(
            state("p", [let("b", ("call", "lib.sum", (n("a"),), "t"))], [(n("t"), "q", 1)]), state("q", [let("b", ("call", "twice", (n("a"),), None))])))
        made = Made(("use", ("lib",), (TWICE, held)), [Made(LIB)])
        self.assertEqual([one[4][1] for one in lets_of(made.nodes()[1])], ["lib.sum", "use.twice"])
        self.assertEqual(made.face()["use.one"][2], {"b": ["a", "t"]})

    def test_what_is_no_module(self):
        good = (TWICE,)
        bad = [("lib", ()), ("lib", (), good, 1), ["lib", (), good], ("Lib", (), good), ("a.b", (), good), ("", (), good), (1, (), good), ("lib", [], good), ("lib", None, good),
               ("lib", ("lib",), good), ("lib", ("a", "b", "a"), good), ("lib", ("a", "b", "c", "d", "e"), good), ("lib", ("a.b",), good), ("lib", (1,), good), ("lib", (), list(good)),
               ("lib", (), ()), ("lib", (), good * 9), ("lib", (), (("a.b", *TWICE[1:]),)), ("lib", (), (TWICE[:4],)), ("lib", (), (None,)), ("lib", (["a"],), good)]
        for thing in bad + any_things():
            self.refused(FlowError, NoModules, thing, Made, thing, thing)
            self.refused(FlowError, NoModules, thing, Made, thing, [])
            self.refused(FlowError, NoModules, thing, Made, thing)

    def test_lists_of_mades(self):
        lib, mid, top = three()
        for thing in [*any_things(), [lib, mid, None], [lib, LIB], [lib, Made(("lib", (), (PLUS,)))], [lib, lib], {"lib": lib}, lib,
                      [Made((name, (), (TWICE,))) for name in "abcdefghijk"]]:
            if thing not in ([], ()):
                self.refused(FlowError, NoModules, thing, Made, MID, thing)
        self.assertEqual(Made(MID, uses=(lib,)), Made(MID, [Made(("unused", (), (PLUS,))), lib, Made(("mid", (), (PLUS,)))]))
        uses = [lib]
        made = Made(MID, uses)
        uses.clear()
        self.assertEqual(joined([lib, made], "mid.one"), joined([made, lib], "mid.one"))

    def test_as_many_as_there_may_be(self):
        mades = [Made((name, (), (TWICE,))) for name in "abcdefghij"]
        nodes = tuple(calls("x" + name, name + ".twice") for name in "abcd") + tuple(calls("y" + name, "xa") for name in "ab")
        made = Made(("use", ("d", "c", "b", "a"), nodes), mades)
        self.assertEqual(len(made.nodes()), 6)
        self.assertEqual(len(Made(("many", (), tuple((name, *TWICE[1:]) for name in "abcdefgh"))).nodes()), 8)
        self.assertEqual(joined(mades, "j.twice").main(), "j.twice")

    def test_used_ones_that_are_not_there(self):
        lib, mid, _ = three()
        self.refused_fields(Missing, NoImport, {"where": "mid", "found": "lib"}, Made, MID)
        self.refused_fields(Missing, NoImport, {"where": "top", "found": "mid"}, Made, TOP, [lib])
        self.refused_fields(Missing, NoImport, {"where": "top", "found": "lib"}, Made, TOP, [mid])
        self.refused_fields(Missing, NoImport, {"where": "top", "found": "mid"}, Made, TOP, [])

    def test_more_than_ten_nodes(self):
        names = "abcdefgh"
        lib = Made(("lib", (), tuple((name, *TWICE[1:]) for name in names)))

        def use(many, own):
            return ("use", ("lib",), tuple(calls("x" + names[at], "lib." + names[at % many]) for at in range(own)))
        self.assertEqual(len(Made(use(5, 5), [lib]).nodes()), 5)
        self.assertEqual(len(Made(use(2, 8), [lib]).nodes()), 8)
        self.refused_fields(Barred, TooMany, {"many": 12}, Made, use(6, 6), [lib])
        self.refused_fields(Barred, TooMany, {"many": 11}, Made, use(3, 8), [lib])
        # Ahead of what doesn't fit, behind what isn't there.
        module = use(2, 8)
        unfit = (*module[:2], module[2][:7] + (("xh", *calls("xh", "nowhere")[1:]),))
        more = (*module[:2], tuple(calls("x" + name, "lib." + name) for name in names[:6]) + (calls("xg", "nowhere"),))
        self.unfit_made(unfit, [lib], "use.xh", 0, "unknown", "nowhere")
        self.refused_fields(Barred, TooMany, {"many": 13}, Made, more, [lib])
        self.refused_fields(Missing, NoImport, {"where": "use", "found": "lib"}, Made, more, [])

    def test_nodes_that_do_not_fit(self):
        lib = Made(LIB)
        for called, found in (("lib.plus", "lib.plus"), ("sum", "sum"), ("far.sum", "far.sum"), ("one", "mid.one"), ("two", "mid.two")):
            self.unfit_made(("mid", ("lib",), (calls("one", called), calls("two", "one"))), [lib], "mid.one", 0, "unknown", found)
        self.unfit_made(("mid", (), (TWICE, SUM, TWICE)), [], "mid.twice", -1, "twice", "mid.twice")
        bad = node("one", [("a", 3)], [("b", 4)], [], let("b", ("call", "lib.twice", (n("a"),), None)))
        self.unfit_made(("mid", ("lib",), (bad,)), [lib], "mid.one", 0, "kind", n("a"))
        many = node("one", [("a", 4)], [("b", 4)], [], let("b", ("call", "lib.twice", (n("a"), n("a")), None)))
        self.unfit_made(("mid", ("lib",), (many,)), [lib], "mid.one", 0, "many", "lib.twice")
        # Far ones that aren't used near are not called.
        _, mid, _ = three()
        self.unfit_made(("top", ("mid",), (calls("one", "lib.twice"),)), [lib, mid], "top.one", 0, "unknown", "lib.twice")

    def test_clocks_of_the_last_one(self):
        clocked = node("main", [("t", 1), ("a", 4, (("t", 1),))], [("b", 4, (("t", 1),))], [], let("b", ("add", n("a"), n("a"))))
        made = Made(("use", (), (TWICE, clocked)))
        self.assertEqual(made.face()["use.main"], (clocked[1], clocked[2], {"b": ["t", "a"]}))
        self.unfit_made(("use", (), (clocked, TWICE)), [], "use.main", -1, "clock", "a")
        # Called by another module it is the main one no more.
        user = node("one", [("t", 1), ("a", 4)], [("b", 4)], [], let("b", ("call", "use.main", (n("t"), n("a")), None)))
        self.unfit_made(("far", ("use",), (user,)), [made], "use.main", -1, "clock", "a")
        self.assertEqual(joined([made], "use.main").main(), "use.main")
        self.refused_fields(FlowError, Unfit, {"where": "use.main", "at": -1, "why": "clock", "found": "a"}, joined, [made], "use.twice")

    def test_as_they_are_first_called(self):
        # Of two used ones that don't fit the one that is called first goes.
        def clocked(name):
            return node(name, [("t", 1)], [(name, 1, (("t", 1),))], [], let(name, ("when", n("t"), "t", 1)))
        mades = [Made((name, (), (clocked(out),))) for name, out in (("ma", "x"), ("mb", "y"))]

        def use(first, second):
            return ("use", ("ma", "mb"), (node("one", [("t", 1)], [("p", 1), ("q", 1)], [], let("p", ("call", first, (n("t"),), None)), let("q", ("call", second, (n("t"),), None))),))
        self.unfit_made(use("ma.x", "mb.y"), mades, "ma.x", -1, "clock", "x")
        self.unfit_made(use("mb.y", "ma.x"), mades, "mb.y", -1, "clock", "y")

    def test_rings_and_first_worths(self):
        ring = node("one", [("a", 4)], [("b", 4)], [("c", 4)], let("b", ("call", "lib.twice", (n("c"),), None)), let("c", n("b")))
        self.refused_fields(FlowError, Ringed, {"where": "mid.one", "ring": ["b", "c"]}, Made, ("mid", ("lib",), (ring,)), [Made(LIB)])
        bare = node("one", [("a", 4)], [("b", 4)], [], let("b", ("call", "lib.twice", (last("a"),), None)))
        self.refused_fields(FlowError, Bare, {"where": "mid.one", "at": 0, "found": "b"}, Made, ("mid", ("lib",), (bare,)), [Made(LIB)])
        # What doesn't fit goes ahead of rings, these ahead of worths that lack.
        self.refused_fields(FlowError, Ringed, {"where": "mid.two", "ring": ["b", "c"]}, Made, ("mid", ("lib",), (bare, ("two", *ring[1:]))), [Made(LIB)])
        self.unfit_made(("mid", ("lib",), (ring, calls("two", "nowhere"))), [Made(LIB)], "mid.two", 0, "unknown", "nowhere")

    def test_equal_ones(self):
        lib, mid, top = three()
        self.assertEqual(three(), (lib, mid, top))
        self.assertNotEqual(lib, mid)
        self.assertNotEqual(lib, Made(("lib", (), (SUM, TWICE))))
        self.assertNotEqual(lib, Made(("other", (), (TWICE, SUM))))
        self.assertNotEqual(mid, Made((*MID[:1], ("lib", "far"), MID[2]), [lib, Made(("far", (), (PLUS,)))]))
        # Told alike but for what hangs on what in used ones.
        whole = node("cross", [("a", 4), ("b", 4)], [("p", 4), ("q", 4)], [], let("p", ("add", n("a"), n("b"))), let("q", n("a")))
        use = node("use", [("u", 4), ("v", 4)], [("x", 4), ("y", 4)], [], let("x y", ("call", "lib.cross", (n("u"), n("v")), None)))
        pair = [Made(("far", ("lib",), (use,)), [Made(("lib", (), (one,)))]) for one in (CROSS, whole)]
        self.assertEqual(pair[0].nodes(), pair[1].nodes())
        self.assertNotEqual(*pair)
        for thing in [None, "lib", LIB, Program([SMALL]), [lib]]:
            self.assertNotEqual(lib, thing)

    def test_told_dicts_and_lists_are_new(self):
        made = Made(LIB)
        ahead = made.face()
        told = made.face()
        told["lib.twice"][2]["b"].append("z")
        told["lib.twice"][2]["c"] = []
        del told["lib.sum"]
        self.assertEqual(made.face(), ahead)
        self.assertEqual(joined([Made(MID, [made]), made], "mid.two").main(), "mid.two")


class Joined(MadeCase):
    def test_each_order_that_there_may_be(self):
        lib, mid, top = three()
        awaited = Program([*lib.nodes(), *mid.nodes(), *top.nodes()], main="top.three")
        for mades in itertools.permutations((lib, mid, top)):
            self.assertEqual(joined(mades=list(mades), main="top.three"), awaited)
            self.assertEqual(joined(mades, "top.three").nodes(), awaited.nodes())

    def test_main_and_its_module_s_used_ones_alone(self):
        lib, mid, top = three()
        self.assertEqual(joined([top, mid, lib], "mid.one"), Program([*lib.nodes(), *mid.nodes()], main="mid.one"))
        self.assertEqual(joined([top, mid, lib], "lib.twice"), Program(lib.nodes(), main="lib.twice"))

    def test_the_least_name_first(self):
        mades = {name: Made((name, (), (TWICE,))) for name in ("mb", "ma", "md")}
        mades["mc"] = Made(("mc", ("md",), (TWICE,)), [mades["md"]])
        mades["aa"] = Made(("aa", ("mb",), (TWICE,)), [mades["mb"]])
        mades["z"] = Made(("z", ("mc", "mb", "aa", "ma"), (TWICE,)), list(mades.values()))
        told = joined(list(mades.values()), "z.twice")
        self.assertEqual([one[0] for one in told.nodes()], [name + ".twice" for name in ("ma", "mb", "aa", "md", "mc", "z")])

    def test_no_lists_of_mades(self):
        lib, mid, _ = three()
        for thing in [*any_things(), [lib, lib], [lib, Made(("lib", (), (PLUS,)))], [lib, None], lib, {"lib": lib}, [Made((name, (), (TWICE,))) for name in "abcdefghijk"]]:
            self.refused(FlowError, NoModules, thing, joined, thing, thing)
        self.refused(Missing, NotThere, "twice", joined, [lib], "twice")
        for thing in [*any_things(), "lib", "lib.plus", "mid.one", ["lib.twice"]]:
            self.refused(Missing, NotThere, thing, joined, [lib], thing)
        # No main one ahead of what isn't there.
        self.refused(Missing, NotThere, "x", joined, [mid], "x")

    def test_used_ones_that_are_not_there_or_otherwise(self):
        lib, mid, top = three()
        self.refused_fields(Missing, NoImport, {"where": "mid", "found": "lib"}, joined, [mid], "mid.one")
        self.refused_fields(Missing, NoImport, {"where": "top", "found": "mid"}, joined, [lib, top], "top.one")
        # The first in the list, though the main one needs it not.
        self.refused_fields(Missing, NoImport, {"where": "top", "found": "mid"}, joined, [lib, top], "lib.sum")
        self.refused_fields(Missing, NoImport, {"where": "top", "found": "lib"}, joined, [top, mid], "top.one")
        self.refused_fields(Missing, NoImport, {"where": "mid", "found": "lib"}, joined, [mid, top], "top.one")
        more = Made(("lib", (), (TWICE, SUM, PLUS)))
        self.refused_fields(Missing, NoImport, {"where": "mid", "found": "lib"}, joined, [more, mid, top], "top.one")
        firsts = Made(("lib", (), (TWICE, node("sum", [("a", 4)], [("s", 4, (), 1)], [], let("s", ("add", last("s"), n("a")))))))
        self.refused_fields(Missing, NoImport, {"where": "mid", "found": "lib"}, joined, [firsts, mid], "mid.one")

    def test_another_one_of_the_same_face_will_do(self):
        lib, mid, _ = three()
        thrice = node("twice", [("a", 4)], [("b", 4)], [("k", 4)], let("k", ("add", n("a"), n("a"))), let("b", ("add", n("k"), n("a"))))
        other = Made(("lib", (), (thrice, SUM)))
        self.assertNotEqual(other, lib)
        self.assertEqual(Run(joined([other, mid], "mid.two")).beat({"a": 3}), {"b": 9})
        self.assertEqual(Run(joined([lib, mid], "mid.two")).beat({"a": 3}), {"b": 6})
        # Of another hanging it is another face.
        cut = Made(("lib", (), (node("twice", [("a", 4)], [("b", 4)], [], let("b", lit(4, 1))), SUM)))
        self.refused_fields(Missing, NoImport, {"where": "mid", "found": "lib"}, joined, [cut, mid], "mid.two")

    def test_ones_that_use_themselves(self):
        lib, mid, top = three()
        back = Made(("lib", ("mid",), LIB[2]), [Made(("mid", (), (PLUS,)))])
        near = Made(("lib", ("mid",), LIB[2]), [mid])
        self.refused_fields(Missing, NoImport, {"where": "mid", "found": "lib"}, joined, [mid, near], "mid.one")
        self.refused_fields(Missing, NoImport, {"where": "lib", "found": "mid"}, joined, [near, mid], "mid.one")
        self.refused_fields(Missing, NoImport, {"where": "lib", "found": "mid"}, joined, [back, mid], "mid.one")
        far = Made(("lib", ("top",), LIB[2]), [top])
        self.refused_fields(Missing, NoImport, {"where": "mid", "found": "lib"}, joined, [mid, top, far], "mid.one")
        self.refused_fields(Missing, NoImport, {"where": "top", "found": "mid"}, joined, [top, mid, far], "mid.one")

    def test_as_a_program_refuses(self):
        names = "abcdefgh"
        mades = [Made((name, (), tuple((one, *TWICE[1:]) for one in names[:4]))) for name in ("ma", "mb", "mc")]
        made = Made(("top", ("ma", "mb", "mc"), (calls("one", "ma.a"),)), mades)
        with self.assertRaises(NoNodes) as caught:
            joined([made, *mades], "top.one")
        self.assertEqual(caught.exception.found, [*mades[0].nodes(), *mades[1].nodes(), *mades[2].nodes(), *made.nodes()])

    def test_judged_apart_and_joined_is_as_made_together(self):
        # Programs by chance, their nodes parted over modules in a row.
        many = 0
        for seed in range(160):
            told = some_program(seed)
            chance = random.Random(seed)
            cuts = sorted(chance.sample(range(1, len(told)), min(len(told) - 1, chance.randint(0, 2)))) if len(told) > 1 else []
            spans = list(zip([0, *cuts], [*cuts, len(told)]))
            homes = {one[0]: at for at, (low, high) in enumerate(spans) for one in told.nodes()[low:high]}
            mades = []
            for at, (low, high) in enumerate(spans):
                module = (f"m{'abc'[at]}", tuple(f"m{'abc'[near]}" for near in range(at)), tuple(self.within(one, homes, at) for one in told.nodes()[low:high]))
                mades.append(Made(module, mades))
                many += at > 0
            full = {name: f"m{'abc'[homes[name]]}.{name}" for name in homes}
            awaited = Program([self.called(one, full) for one in told.nodes()], main=full[told.main()])
            chance.shuffle(mades)
            got = joined(mades, full[told.main()])
            self.assertEqual(got, awaited)
            faces = {name: made.face()[name] for made in mades for name in made.face()}
            for name in full.values():
                self.assertEqual(faces[name], (got.node(name)[1], got.node(name)[2], hangs(got, name)))
            run, other = Run(told), Run(got)
            for _ in range(4):
                ins = some_ins(told, chance)
                self.assertEqual(run.beat(ins), other.beat(ins))
            self.assertEqual(run.kept(), other.kept())
        self.assertGreater(many, 50)

    def within(self, one, homes, at):
        """The node as it stands in its module: those of others by the module's name and theirs."""
        names = {name: name if homes[name] == at else f"m{'abc'[homes[name]]}.{name}" for name in homes}
        return (one[0], *self.called(one, {**names, one[0]: one[0]})[1:])

    def called(self, one, names):
        def let_of(told):
            return (told[0], told[1], renamed(told[2], {}, nodes=names))
        lets = tuple(let_of(item) if item[0] == "let" else
                     ("states", tuple((who, tuple(let_of(own) for own in lets), strong, weak) for who, lets, strong, weak in item[1])) for item in one[4])
        return (names[one[0]], *one[1:4], lets)


if __name__ == "__main__":
    import unittest
    unittest.main()
