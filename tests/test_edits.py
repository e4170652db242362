"""Promises 113 to 115: runs that are edited, what goes on and what begins."""

import random

from beatflows.edits import Live, led_over
from beatflows.errors import Bare, Barred, FlowError, Missing, NoEdit, NoIns, NoNumber, NoProgram, NotThere, Over, Ringed, Unfit
from beatflows.opening import opened
from beatflows.programs import Program
from beatflows.runs import Run
from beatflows.terms import blocks_of, flows_of
from tests.chance import some_ins, some_program
from tests.helper import SMALL, RefusalCase, any_things
from tests.nodes import block, last, let, lit, n, node, program, state
from tests.test_traces import BARE, RINGED


def sums(width=4, name="sum"):
    return node(name, [("a", width)], [("s", width, (), 0)], [], let("s", ("add", last("s"), n("a"))))


def adder(term, *more, ins=(("a", 4),), inner=(), called="main", first=0):
    """A main node that tells `s`, with the term, and whose last `s` is asked for by it."""
    return node(called, list(ins), [("s", 4, (), first)], list(inner), let("s", term), *more)


UP = program(adder(("add", last("s"), n("a"))))
DOWN = program(adder(("sub", last("s"), n("a"))))

ITEM = ("last", (), "s", 0)


def blocked(many, first=0, name="main", extra=()):
    """A program of a block of so many states, that goes to the next one at each beat at which `t` has 1, anew."""
    names = "pqrs"[:many]
    states = [state(one, [let("y", ("first", lit(3, at), ("add", last("y"), lit(3, 1))))], [], [(n("t"), names[(at + 1) % many], 1)]) for at, one in enumerate(names)]
    return program(node(name, [("t", 1)], [("y", 3, (), first)], [], block(*states), *extra))


class LiveCase(RefusalCase):
    def edited(self, live, many, ins):
        return [live.beat(ins) for _ in range(many)]


class Lives(LiveCase):
    def test_without_edits_it_is_a_run(self):
        for seed in range(60):
            told = some_program(seed)
            chance = random.Random(seed)
            live, run = Live(program=told), Run(told)
            self.assertIsInstance(live, Run)
            for _ in range(5):
                ins = some_ins(told, chance)
                self.assertEqual(live.beat(ins), run.beat(ins))
                self.assertEqual(list(live.kept().items()), list(run.kept().items()))
            self.assertEqual((live.beats(), live.places()), (run.beats(), run.places()))
            for place in run.places():
                self.assertEqual(live.node_at(place), run.node_at(place))
                for name in flows_of(told.node(run.node_at(place))):
                    self.assertEqual(live.worth(place, name), run.worth(place, name))
            self.assertEqual((live.program(), live.to_come(), live.taken()), (told, [], []))

    def test_refused_as_a_run(self):
        for thing in any_things() + [opened(UP)]:
            if not isinstance(thing, Program):
                self.refused(FlowError, NoProgram, thing, Live, thing)
                self.refused(FlowError, NoProgram, thing, led_over, thing, thing)
                self.refused(FlowError, NoProgram, thing, led_over, UP, thing)
                self.refused(FlowError, NoProgram, thing, Live(UP).edit, thing, at=thing, led=thing)
        for function, things in ((Live, ()), (led_over, (None,))):
            self.refused_fields(FlowError, Ringed, {"where": "ringed", "ring": ["x"]}, function, Program([RINGED]), *things)
            self.refused_fields(FlowError, Bare, {"where": "bare", "at": 0, "found": "x"}, function, Program([BARE]), *things)
        self.refused_fields(FlowError, Bare, {"where": "bare", "at": 0, "found": "x"}, led_over, UP, Program([BARE]))
        live = Live(UP)
        for thing in any_things():
            self.refused(FlowError, NoIns, thing, live.beat, thing)
            if thing != ():
                self.refused(Missing, NotThere, thing, live.node_at, thing)
        self.refused_fields(Missing, NotThere, {"found": ((), "z")}, live.worth, (), "z")

    def test_over(self):
        live = Live(Program([SMALL]))
        for _ in range(120):
            live.beat({})
        self.refused_fields(Barred, Over, {"found": 120}, live.beat, {})
        for at in (0, 119):
            self.refused_fields(Barred, Over, {"found": at}, live.edit, Program([SMALL]), at=at)


class Edits(LiveCase):
    def test_an_edit_takes_over_at_just_its_beat(self):
        live = Live(UP)
        self.assertIsNone(live.edit(program=DOWN, at=2, led=()))
        told = [live.beat({"a": 3})["s"] for _ in range(4)]
        self.assertEqual(told, [3, 6, 3, 0])
        self.assertEqual((live.program(), live.to_come(), live.taken()), (DOWN, [], [(2, DOWN, [])]))

    def test_told_of_the_beat_that_is_next(self):
        live = Live(UP)
        live.edit(DOWN, at=0)
        self.assertEqual((live.program(), live.to_come(), live.taken()), (UP, [(0, DOWN, [])], []))
        self.assertEqual(live.beat({"a": 1}), {"s": 15})
        live.edit(UP, at=1)
        self.assertEqual(live.worth((), "s"), 15)
        self.assertEqual(live.beat({"a": 3}), {"s": 2})
        self.assertEqual(live.taken(), [(0, DOWN, []), (1, UP, [])])

    def test_several_and_one_told_over_by_an_earlier_one(self):
        live = Live(UP)
        live.edit(DOWN, at=3)
        live.edit(UP, at=5)
        live.edit(DOWN, at=7)
        self.assertEqual([(at, one) for at, one, _ in live.to_come()], [(3, DOWN), (5, UP), (7, DOWN)])
        live.edit(UP, at=5)
        self.assertEqual([at for at, _, _ in live.to_come()], [3, 5])
        live.edit(UP, at=4)
        self.assertEqual([at for at, _, _ in live.to_come()], [3, 4])
        live.edit(UP, at=119)
        self.assertEqual([at for at, _, _ in live.to_come()], [3, 4, 119])
        live.edit(DOWN, at=1)
        self.assertEqual([at for at, _, _ in live.to_come()], [1])
        self.assertEqual([live.beat({"a": 1})["s"] for _ in range(3)], [1, 0, 15])

    def test_taken_back(self):
        live = Live(UP)
        for at in (2, 4, 6):
            live.edit(DOWN, at=at)
        for thing in any_things() + [3, 7, 119, 120, "4", (4,)]:
            self.refused(Missing, NotThere, thing, live.take_back, thing)
        one = Live(UP)
        one.edit(DOWN, at=1)
        self.refused(Missing, NotThere, True, one.take_back, True)
        self.assertIsNone(live.take_back(at=4))
        self.assertEqual([at for at, _, _ in live.to_come()], [2])
        self.refused(Missing, NotThere, 6, live.take_back, 6)
        self.edited(live, 3, {"a": 0})
        # One that took over is none to come any more.
        self.refused(Missing, NotThere, 2, live.take_back, 2)
        self.assertEqual([at for at, _, _ in live.taken()], [2])

    def test_not_before_the_beat_is_not_refused(self):
        live = Live(UP)
        live.beat({"a": 1})
        live.edit(DOWN, at=1)
        for thing in ({}, {"a": 16}, {"b": 1}, None):
            self.refused(FlowError, NoIns, thing, live.beat, thing)
            self.assertEqual((live.program(), live.taken(), live.beats(), live.kept(), live.worth((), "s")), (UP, [], 1, {ITEM: 1}, 1))
        self.assertEqual([at for at, _, _ in live.to_come()], [1])
        self.assertEqual(live.beat({"a": 1}), {"s": 0})

    def test_places_and_flows_of_the_new_program(self):
        live = Live(UP)
        new = program(sums(), adder(("call", "sum", (n("a"),), None), inner=()))
        live.edit(new, at=1)
        live.beat({"a": 1})
        self.assertEqual(live.places(), [()])
        live.beat({"a": 1})
        self.assertEqual((live.places(), live.node_at(((0, 0),)), live.worth(((0, 0),), "a")), ([(), ((0, 0),)], "sum", 1))
        self.assertEqual(list(live.kept()), [("last", ((0, 0),), "s", 0)])

    def test_twins_and_those_laid(self):
        live = Live(UP)
        live.edit(DOWN, at=1)
        live.beat({"a": 1})
        live.edit(UP, at=5, led=[(ITEM, ITEM)])
        twin = live.twin()
        self.assertIs(twin.__class__, Live)
        live.beat({"a": 1})
        self.assertEqual((twin.program(), twin.beats(), twin.kept(), twin.to_come(), twin.taken()), (UP, 1, {ITEM: 1}, [(1, DOWN, []), (5, UP, [(ITEM, ITEM)])], []))
        late = live.twin()
        self.assertEqual((late.program(), late.taken(), late.kept(), late.beats()), (DOWN, [(1, DOWN, [])], {ITEM: 0}, 2))
        twin.take_back(5)
        self.assertEqual(len(live.to_come()), 1)
        fresh = live.fresh()
        self.assertIs(fresh.__class__, Live)
        self.assertEqual((fresh.program(), fresh.beats(), fresh.to_come(), fresh.taken(), fresh.kept()), (live.program(), 0, [], [], {ITEM: 0}))
        other = Live(UP)
        other.edit(DOWN, at=9)
        other.beat({"a": 7})
        self.assertIsNone(other.lay(live))
        self.assertEqual((other.kept(), other.beats(), other.to_come(), other.taken(), other.program()), (live.kept(), live.beats(), live.to_come(), live.taken(), live.program()))
        other.take_back(5)
        self.assertEqual(len(live.to_come()), 1)

    def test_a_twin_behind_an_edit(self):
        live = Live(UP)
        live.edit(program(sums(), adder(("call", "sum", (n("a"),), None))), at=1)
        self.edited(live, 3, {"a": 2})
        twin = live.twin()
        self.assertEqual((twin.program(), twin.places(), twin.kept(), twin.taken(), twin.worth(((0, 0),), "s")),
                         (live.program(), live.places(), live.kept(), live.taken(), 4))
        self.assertEqual(twin.beat({"a": 1}), live.beat({"a": 1}))

    def test_told_lists_are_new(self):
        live = Live(UP)
        led = [(ITEM, ITEM)]
        live.edit(DOWN, at=1, led=led)
        led.clear()
        live.to_come()[0][2].clear()
        live.to_come().clear()
        self.assertEqual(live.to_come(), [(1, DOWN, [(ITEM, ITEM)])])
        self.edited(live, 2, {"a": 1})
        live.taken()[0][2].clear()
        live.taken().clear()
        self.assertEqual(live.taken(), [(1, DOWN, [(ITEM, ITEM)])])
        led_over(UP, DOWN).clear()
        self.assertEqual(led_over(UP, DOWN), [(ITEM, "kept")])
        self.assertRaises(TypeError, live.edit, DOWN, 3)


class Refused(LiveCase):
    def setUp(self):
        self.live = Live(UP)
        self.live.beat({"a": 1})
        self.live.edit(DOWN, at=3)

    def tearDown(self):
        self.assertEqual((self.live.program(), self.live.to_come(), self.live.beats(), self.live.kept()), (UP, [(3, DOWN, [])], 1, {ITEM: 1}))

    def test_in_their_order(self):
        self.refused_fields(FlowError, Ringed, {"where": "ringed", "ring": ["x"]}, self.live.edit, Program([RINGED]), at=None, led=None)
        self.refused_fields(FlowError, Bare, {"where": "bare", "at": 0, "found": "x"}, self.live.edit, Program([BARE]), at=None, led=None)
        far = program(adder(n("a"), called="far", ins=[("a", 4), ("b", 1)]))
        self.refused_fields(FlowError, Unfit, {"where": "far", "at": -1, "why": "ins", "found": "b"}, self.live.edit, far, at=None, led=None)
        outs = program(node("main", [("a", 4)], [("y", 4)], [], let("y", n("a"))))
        self.refused_fields(FlowError, Unfit, {"where": "main", "at": -1, "why": "outs", "found": "y"}, self.live.edit, outs, at=0, led=None)
        for at in [-1, 120, True, False, None, "1", (1,), [], 10 ** 29]:
            self.refused(FlowError, NoNumber, at, self.live.edit, DOWN, at=at, led=None)
        self.refused_fields(Barred, Over, {"found": 0}, self.live.edit, DOWN, at=0, led=None)
        self.refused(FlowError, NoEdit, None, self.live.edit, DOWN, at=1, led=None)

    def test_what_is_led(self):
        pair = (ITEM, ITEM)
        for led in any_things() + [[pair] * 41, {ITEM: ITEM}, ITEM]:
            if not isinstance(led, (list, tuple)) or len(led) > 40:
                self.refused(FlowError, NoEdit, led, self.live.edit, DOWN, at=5, led=led)
        for thing in any_things() + [(ITEM,), (ITEM, ITEM, ITEM), [ITEM, ITEM], (ITEM, ("last", (), "s", 1)), (("last", (), "a", 0), ITEM), (ITEM, ("next", (), 0)),
                                     (ITEM, ("last", (), "s", False)), (["last", (), "s", 0], ITEM), (ITEM, None)]:
            self.refused(FlowError, NoEdit, thing, self.live.edit, DOWN, at=5, led=[pair, thing])
            self.refused(FlowError, NoEdit, thing, self.live.edit, DOWN, at=5, led=(thing, None))
        # Twice to one new item, the second one goes.
        again = (("last", (), "s", 0), ITEM)
        with self.assertRaises(NoEdit) as caught:
            self.live.edit(DOWN, at=5, led=[pair, again])
        self.assertIs(caught.exception.found, again)


class LedOver(LiveCase):
    def wide(self, called, first, width=4):
        """Sums up in `k` of the width, first so much, whose last is asked for."""
        return program(node("main", [("a", 4)], [("s", 4)], [(called, width, (), first)], let(called, ("add", last(called), ("wide", width, n("a")))), let("s", ("wide", 4, n(called)))))

    def test_by_hand(self):
        one, other = self.wide("k", 5), self.wide("m", 9)
        for led, awaited in (([], 10), ([(("last", (), "k", 0), ("last", (), "m", 0))], 8)):
            live = Live(one)
            live.edit(other, at=2, led=led)
            self.edited(live, 2, {"a": 1})
            self.assertEqual(live.beat({"a": 1}), {"s": awaited})
            self.assertEqual(live.taken(), [(2, other, led)])

    def test_one_old_item_to_several(self):
        two = program(node("main", [("a", 4)], [("s", 4)], [("k", 4, (), 0), ("m", 4, (), 0)], let("k", ("add", last("k"), n("a"))), let("m", ("sub", last("m"), n("a"))),
                           let("s", ("xor", n("k"), n("m")))))
        live = Live(self.wide("k", 5))
        live.edit(two, at=1, led=[(("last", (), "k", 0), ("last", (), name, 0)) for name in "km"])
        self.edited(live, 2, {"a": 1})
        self.assertEqual(live.kept(), {("last", (), "k", 0): 7, ("last", (), "m", 0): 5})

    def test_forty_at_most(self):
        rows = [("r" + sign, (4, 2), (), (0, 1, 2, 3)) for sign in "abcdefghij"]
        told = program(node("main", [("a", 4)], [("s", 4)], rows, let("s", n("a")), *[let(one[0], last(one[0])) for one in rows]))
        led = [(("last", (), name, 3 - at), ("last", (), name, at)) for name in ("r" + sign for sign in "abcdefghij") for at in range(4)]
        live = Live(told)
        live.edit(told, at=0, led=led)
        live.beat({"a": 0})
        self.assertEqual(list(live.kept().values()), [3, 2, 1, 0] * 10)
        self.refused(FlowError, NoEdit, more := led + led[:1], live.edit, told, at=1, led=more)

    def test_widths(self):
        one, other = self.wide("k", 5), self.wide("m", 1, 3)
        pair = (("last", (), "k", 0), ("last", (), "m", 0))
        self.refused_fields(FlowError, NoEdit, {"found": pair}, Live(one).edit, other, at=0, led=[pair])
        # Of the same name, but of another kind, it begins.
        same = self.wide("k", 3, 3)
        live = Live(one)
        live.edit(same, at=2)
        self.edited(live, 3, {"a": 1})
        self.assertEqual(live.kept(), {("last", (), "k", 0): 4})
        self.assertEqual(led_over(one, same), [(("last", (), "k", 0), "begun")])

    def test_of_the_program_that_runs_ahead_of_that_beat(self):
        one, other = self.wide("k", 5), self.wide("m", 9)
        k, m = ("last", (), "k", 0), ("last", (), "m", 0)
        live = Live(one)
        live.edit(other, at=4)
        # Told of a beat ahead of it, of the one that runs now; of a later one, of that to come.
        self.refused_fields(FlowError, NoEdit, {"found": (k, k)}, live.edit, one, at=5, led=[(k, k)])
        live.edit(one, at=5, led=[(m, k)])
        self.refused_fields(FlowError, NoEdit, {"found": (m, k)}, live.edit, one, at=4, led=[(m, k)])
        self.assertEqual([at for at, _, _ in live.to_come()], [4, 5])
        self.edited(live, 6, {"a": 1})
        self.assertEqual(live.kept(), {k: 11})

    def test_next_of_blocks(self):
        t = {"t": 1}
        # As many states, so it goes on; one state more or less, so it begins; led by hand it goes on.
        following, anew = ("next", (), 0), ("anew", (), 0)
        for many, led, awaited in ((3, [], [0, 1, 2, 0]), (4, [], [0, 1, 0, 1]), (4, [(following, following)], [0, 1, 2, 3]), (2, [], [0, 1, 0, 1])):
            live = Live(blocked(3))
            live.edit(blocked(many), at=2, led=led)
            self.assertEqual([live.beat(t)["y"] for _ in range(4)], awaited, (many, led))
        self.refused_fields(FlowError, NoEdit, {"found": (following, following)}, Live(blocked(3)).edit, blocked(2), at=0, led=[(following, following)])
        # Of as many states, in a node of another name, it goes over by hand alone.
        for led, awaited in (([], 0), ([(following, following)], 2)):
            live = Live(blocked(3))
            live.edit(blocked(3, name="far"), at=2, led=led)
            self.assertEqual([live.beat(t)["y"] for _ in range(3)][-1], awaited)
        # To a `next` from a `next` alone; from a `next` to any of its width.
        twos = program(node("main", [("t", 1)], [("y", 3, (), 0)], [("k", 2, (), 1)], let("k", last("k")), let("y", ("wide", 3, n("k")))))
        k = ("last", (), "k", 0)
        self.refused_fields(FlowError, NoEdit, {"found": (k, following)}, Live(twos).edit, blocked(4), at=0, led=[(k, following)])
        live = Live(blocked(4))
        live.edit(twos, at=2, led=[(following, k)])
        self.assertEqual([live.beat(t)["y"] for _ in range(3)], [0, 1, 2])
        self.assertEqual(led_over(blocked(3), blocked(4)), [(anew, "kept"), *[(("first", (), at, 0), "kept" if at < 3 else "begun") for at in range(4)],
                                                            (("last", (), "y", 0), "kept"), (following, "begun")])

    def test_firsts_and_guards(self):
        def one(term, goal):
            return program(node("main", [("a", 1)], [("y", 1)], [], block(
                state("p", [let("y", term)], [(goal, "p", 0)]))))
        waits = one(("first", n("a"), lit(1, 0)), ("first", n("a"), lit(1, 0)))
        live = Live(waits)
        live.beat({"a": 1})
        self.assertEqual(live.kept()["first", (), 0, 0], 0)
        live.edit(one(("first", lit(1, 0), lit(1, 1)), ("first", lit(1, 0), ("first", n("a"), n("a")))), at=1)
        self.assertEqual(live.beat({"a": 0}), {"y": 1})
        self.assertEqual(led_over(waits, live.program()), [(("anew", (), 0), "kept"), (("first", (), 0, 0), "kept"), (("guard", (), 0, 0), "kept"),
                                                           (("guard", (), 0, 1), "begun"), (("next", (), 0), "kept")])

    def test_nodes_of_one_name(self):
        def one(called, main="main"):
            return program(sums(4, "sum"), sums(4, "other"), adder(("call", called, (n("a"),), None), called=main))
        item = ("last", ((0, 0),), "s", 0)
        self.assertEqual(led_over(one("sum"), one("sum", "far")), [(item, "kept")])
        self.assertEqual(led_over(one=one("sum"), other=one("other")), [(item, "begun")])
        live = Live(one("sum"))
        live.edit(one("other"), at=2)
        self.assertEqual([live.beat({"a": 1})["s"] for _ in range(4)], [1, 2, 1, 2])
        self.assertEqual(led_over(UP, program(adder(("add", last("s"), n("a")), called="far"))), [(ITEM, "begun")])

    def test_calls_and_loops(self):
        def one(many):
            row = ("row", (n("a"),) * many)
            return program(sums(), node("main", [("a", 4)], [("s", 4)], [("r", (many, 4))], let("r", ("map", "sum", (row,), None)), let("s", ("at", many - 1, n("r")))))
        live = Live(one(2))
        live.edit(one(3), at=2)
        self.assertEqual([live.beat({"a": 1})["s"] for _ in range(3)], [1, 2, 1])
        self.assertEqual([live.worth(((0, at),), "s") for at in range(3)], [3, 3, 1])
        self.assertEqual(led_over(one(3), one(2)), [(("last", ((0, at),), "s", 0), "kept") for at in range(2)])

    def test_rows(self):
        def one(kind, worth):
            return program(node("main", [("a", 4)], [("s", 4)], [("r", kind, (), worth)], let("r", last("r")), let("s", ("at", 0, n("r")))))
        self.assertEqual(led_over(one((2, 4), (1, 2)), one((3, 4), (1, 2, 3))), [(("last", (), "r", at), "begun") for at in range(3)])
        live = Live(one((2, 4), (1, 2)))
        live.edit(one((3, 4), (7, 8, 9)), at=1, led=[(("last", (), "r", 0), ("last", (), "r", 2)), (("last", (), "r", 1), ("last", (), "r", 0))])
        self.edited(live, 2, {"a": 0})
        self.assertEqual(list(live.kept().values()), [2, 8, 1])

    def test_anew_goes_on(self):
        live = Live(blocked(3))
        live.beat({"t": 1})
        self.assertEqual((live.kept()["next", (), 0], live.kept()["anew", (), 0]), (1, 1))
        live.edit(blocked(3), at=1)
        self.assertEqual(live.beat({"t": 0}), {"y": 1})


def goes_on(one, other, item):
    """Told plainly by 114, of an item that both programs have: whether it goes on as it is."""
    def node_at(told, place):
        return told.node(Run(told).node_at(place))
    near, far = node_at(one, item[1]), node_at(other, item[1])
    if near[0] != far[0]:
        return False
    if item[0] == "next":
        return len(blocks_of(near)[item[2]]) == len(blocks_of(far)[item[2]])
    return item[0] != "last" or flows_of(near)[item[2]][0] == flows_of(far)[item[2]][0]


class ByChance(LiveCase):
    def widths(self, told):
        return {cell[0]: cell[1] for cell in opened(told).cells()}

    def changed(self, thing, chance):
        """The lets of a program with some literals, firsts and goals otherwise, and some lets in another place."""
        if isinstance(thing, tuple) and thing[:1] == ("lit",) and len(thing) == 3 and isinstance(thing[1], int) and chance.random() < 0.3:
            return ("lit", thing[1], chance.randrange(2 ** thing[1]))
        return tuple(self.changed(one, chance) for one in thing) if isinstance(thing, tuple) else thing

    def test_what_an_edit_leads_over(self):
        many = 0
        for seed in range(150):
            told = some_program(seed)
            chance = random.Random(seed)
            nodes = []
            for one in told.nodes():
                lets = list(self.changed(one[4], chance))
                if chance.random() < 0.3:
                    chance.shuffle(lets)
                nodes.append((*one[:4], tuple(lets)))
            try:
                other = Program(nodes)
                widths, widths_too = self.widths(told), self.widths(other)
            except (FlowError, LookupError):
                continue
            live, run = Live(told), Run(told)
            at = chance.randint(0, 3)
            pairs = [(old, new) for old in widths for new in widths_too if widths[old] == widths_too[new] and new[0] != "next"]
            led = list({new: (old, new) for old, new in chance.sample(pairs, min(len(pairs), chance.choice((0, 0, 2))))}.values())
            live.edit(other, at=at, led=led)
            rows = [some_ins(told, chance) for _ in range(6)]
            for ins in rows[:at]:
                self.assertEqual(live.beat(ins), run.beat(ins))
            kept, begin, by_hand = run.kept(), Run(other).kept(), {new: old for old, new in led}
            memory = {}
            for item in begin:
                on = widths.get(item) == widths_too[item] and goes_on(told, other, item)
                memory[item] = kept[by_hand[item]] if item in by_hand else kept[item] if on else begin[item]
                many += on
            run = Run(other)
            run.remembers(memory, at)
            for ins in rows[at:]:
                self.assertEqual(live.beat(ins), run.beat(ins), seed)
                self.assertEqual(live.kept(), run.kept())
            awaited = [(item, "kept" if widths.get(item) == widths_too[item] and goes_on(told, other, item) else "begun") for item in sorted(begin)]
            self.assertEqual(led_over(told, other), awaited)
            self.assertEqual(live.taken(), [(at, other, led)])
        self.assertGreater(many, 200)

    def test_equal_programs_change_nothing(self):
        for seed in range(100):
            told = some_program(seed)
            same = Program(list(told.nodes()), main=told.main())
            chance = random.Random(seed)
            live, run = Live(told), Run(told)
            for _ in range(6):
                if chance.random() < 0.5:
                    live.edit(same, at=chance.randint(live.beats(), 8))
                ins = some_ins(told, chance)
                self.assertEqual(live.beat(ins), run.beat(ins))
                self.assertEqual(live.kept(), run.kept())
            self.assertEqual({why for _, why in led_over(told, same)} - {"kept"}, set())

    def test_outs_that_hang_on_what_is_not_touched_go_on(self):
        # Beside a program by chance, in the same main node, a let that is touched.
        for seed in range(120):
            told = some_program(seed)
            main = told.node(told.main())

            def with_more(right):
                more = (*main[:2], main[2] + (("zz", 4, (), 3),), main[3], main[4] + (("let", ("zz",), right),))
                return Program([more if one[0] == main[0] else one for one in told.nodes()])
            one, other = with_more(("add", ("last", "zz"), ("lit", 4, 1))), with_more(("first", ("lit", 4, 9), ("sub", ("last", "zz"), ("lit", 4, 1))))
            chance = random.Random(seed)
            live, run = Live(one), Run(told)
            at = chance.randint(1, 3)
            live.edit(other, at=at)
            for beat in range(5):
                ins = some_ins(told, chance)
                outs = live.beat(ins)
                self.assertEqual(outs.pop("zz"), 4 + beat if beat < at else (9 if beat == at else (9 - (beat - at)) % 16))
                self.assertEqual(outs, run.beat(ins), seed)


if __name__ == "__main__":
    import unittest
    unittest.main()
