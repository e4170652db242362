"""Promises 71 to 74: nets of wires, their runs, how lean they are, and the wires of flat names."""

import random

from beatflows.errors import Barred, FlowError, Missing, NoFlat, NoIns, NotThere, NoWires, NoWorths, Over
from beatflows.flats import Flat, FlatRun
from beatflows.opening import flat_ins
from beatflows.runs import Run
from beatflows.steps import Code, CodeRun
from beatflows.wires import Net, NetRun
from tests.beside import opened_by_chance
from tests.chance import some_ins
from tests.flat_chance import some_flat, some_flat_ins
from tests.helper import RefusalCase, any_things
from tests.test_flats import A, B, C, D, I, J, NO_NAMES, c, cell, f, lit, row

WORDS_OF_TWO = ("and", "or", "xor")


def flat_of(term, width, *ins, cells=(), clock=()):
    """A flat list of one row of this term, that goes to an out."""
    return Flat(list(ins), [row(C, width, term, clock)], list(cells), [("x", (C,), clock)])


def gate_reads(gate):
    return gate[1:] if gate[0] in ("not", *WORDS_OF_TWO) else ()


class NetCase(RefusalCase):
    def well_formed(self, net):
        """All gates are of the forms of promise 71, and the cells and outs have wires that are there."""
        widths = {cell[0]: cell[1] for cell in net.flat().cells()}
        for wire, gate in enumerate(net.gates()):
            self.assertIsInstance(gate, tuple)
            word, *held = gate
            if word == "in":
                port, bit = held
                self.assertTrue(0 <= bit < net.ins()[port][1])
            elif word == "cell":
                number, bit = held
                self.assertTrue(0 <= bit < net.flat().cells()[number][1])
            elif word == "lit":
                self.assertIn(held, ([0], [1]))
            elif word == "not":
                self.assertTrue(0 <= held[0] < wire)
            else:
                self.assertIn(word, WORDS_OF_TWO)
                one, other = held
                self.assertTrue(0 <= one < other < wire)
        for (item, firsts, wires), made in zip(net.cells(), net.flat().cells(), strict=True):
            self.assertEqual(item, made[0])
            self.assertEqual(firsts, tuple((made[2] >> bit) & 1 for bit in range(made[1])))
            self.assertEqual(len(wires), widths[item])
            self.assertTrue(all(0 <= wire < len(net) for wire in wires))
        deep = []
        for gate in net.gates():
            deep.append(max([deep[wire] for wire in gate_reads(gate)], default=-1) + 1 if gate_reads(gate) else 0)
        self.assertEqual(net.deep(), max(deep, default=0))
        for (name, there, rows), (told, flows, _) in zip(net.outs(), net.flat().outs(), strict=True):
            self.assertEqual(name, told)
            self.assertTrue(0 <= there < len(net))
            self.assertEqual([len(one) for one in rows], [net.flat().width(flow) for flow in flows])

    def lean(self, net):
        """All that promise 73 says, gate by gate."""
        gates = net.gates()
        self.assertEqual(len(set(gates)), len(gates))
        ports = [("in", port, bit) for port, (_, width, _) in enumerate(net.ins()) for bit in range(width)]
        self.assertEqual(gates[:len(ports)], ports)
        self.assertNotIn("in", [gate[0] for gate in gates[len(ports):]])
        going = {wire for _, _, wires in net.cells() for wire in wires}
        for _, there, rows in net.outs():
            going |= {there, *(wire for one in rows for wire in one)}
        for gate in gates:
            read = gate_reads(gate)
            going |= set(read)
            self.assertNotIn("lit", [gates[wire][0] for wire in read])
            if gate[0] == "not":
                self.assertNotEqual(gates[gate[1]][0], "not")
            elif read:
                self.assertNotIn(("not", read[0]), [gates[wire] for wire in read])
                self.assertNotIn(("not", read[1]), [gates[wire] for wire in read])
        self.assertEqual([gate for wire, gate in enumerate(gates) if gate[0] != "in" and wire not in going], [])

    def some_stay(self, net):
        """The wires of flows in outs of the same clock, and of ins at the clocks of outs."""
        flat = net.flat()
        for (_, there, rows), (_, names, clock) in zip(net.outs(), flat.outs()):
            for name, bits in zip(names, rows):
                if flat.clock(name) == clock:
                    self.assertIsNotNone(net.wires_of(name))
            for port, (name, width, own) in enumerate(flat.ins()):
                if own == clock:
                    self.assertIsNotNone(net.wires_of(name))

    def same_worths(self, net, truths, flat_run):
        flat = net.flat()
        for flow in flat.ins() + flat.rows():
            wires = net.wires_of(flow[0])
            if wires is not None:
                there, bits = wires
                worth = flat_run.worth(flow[0])
                self.assertEqual(truths[there], 0 if worth is None else 1)
                self.assertEqual(len(bits), flow[1])
                self.assertEqual(sum(truths[wire] << bit for bit, wire in enumerate(bits)), worth or 0)


class Made(NetCase):
    def setUp(self):
        self.flat = Flat([(A, 1, ()), (B, 4, ((A, 1),))], [row(C, 4, ("add", f(B), c(I)), ((A, 1),)), row(D, 4, ("sub", f(C), lit(4, 3)))],
                         [cell(I, 4, 5, f(D), ((A, 1),), None), cell(J, 1, 1, ("not", c(J)), (), A)],
                         [("x", (C, D, C), ((A, 1),)), ("y", (B,), ())])

    def test_what_it_tells(self):
        net = Net(flat=self.flat)
        self.well_formed(net)
        self.lean(net)
        self.assertEqual(net.flat(), self.flat)
        self.assertEqual(net.ins(), self.flat.ins())
        self.assertEqual(net.cells()[0][:2], (I, (1, 0, 1, 0)))
        self.assertEqual(net.cells()[1][:2], (J, (1,)))
        self.assertEqual([out[0] for out in net.outs()], ["x", "y"])
        self.assertEqual(net.outs()[0][2][0], net.outs()[0][2][2])
        self.assertEqual(len(net), len(net.gates()))

    def test_told_lists_are_new(self):
        net = Net(self.flat)
        for tell in (net.gates, net.ins, net.cells, net.outs):
            ahead = list(tell())
            self.assertIsInstance(tell(), list)
            tell().clear()
            self.assertEqual(tell(), ahead)
        self.assertEqual(Net(self.flat).gates(), net.gates())
        self.assertNotEqual(Net(self.flat), net)

    def test_nothing(self):
        net = Net(Flat([], [], [], []))
        self.assertEqual((net.gates(), net.ins(), net.cells(), net.outs(), net.deep(), len(net)), ([], [], [], [], 0, 0))
        run = NetRun(net)
        self.assertEqual((run.beat({}), run.kept(), run.truths(), run.beats()), ({}, {}, [], 1))

    def test_small_nets(self):
        ins = [(A, 1, ()), (B, 1, ())]
        for word in WORDS_OF_TWO:
            net = Net(flat_of((word, f(B), f(A)), 1, *ins))
            self.assertEqual(net.gates(), [("in", 0, 0), ("in", 1, 0), ("lit", 1), (word, 0, 1)])
            self.assertEqual((net.outs(), net.deep()), ([("x", 2, ((3,),))], 1))
        net = Net(flat_of(("not", ("not", f(A))), 1, *ins))
        self.assertEqual((net.gates(), net.deep()), ([("in", 0, 0), ("in", 1, 0), ("lit", 1)], 0))
        for term, truth in ((("and", f(A), ("not", f(A))), 0), (("or", ("not", f(A)), f(A)), 1), (("xor", f(A), ("not", f(A))), 1),
                            (("xor", f(A), f(A)), 0), (("and", f(A), lit(1, 0)), 0), (("or", lit(1, 1), f(A)), 1)):
            net = Net(flat_of(term, 1, *ins))
            self.assertEqual([gate for gate in net.gates() if gate == ("lit", truth)], [("lit", truth)], term)
            self.assertEqual({gate[0] for gate in net.gates()}, {"in", "lit"})
            self.lean(net)
        for term in (("and", f(A), lit(1, 1)), ("or", f(A), lit(1, 0)), ("xor", f(A), lit(1, 0)), ("and", f(A), f(A)), ("or", f(A), f(A)),
                     ("pick", f(B), f(A), f(A)), ("pick", lit(1, 1), f(A), f(B)), ("pick", lit(1, 0), f(B), f(A))):
            self.assertEqual(Net(flat_of(term, 1, *ins)).outs()[0][2], ((0,),), term)

    def test_silent_ports_have_noughts_and_clocks_hold_back(self):
        flat = Flat([(A, 1, ()), (B, 2, ((A, 0),))], [row(C, 2, ("not", f(B)), ((A, 0),)), row(D, 2, ("not", f(B)))], [],
                    [("x", (C,), ((A, 0),)), ("y", (D, C), ())])
        run = NetRun(Net(flat))
        self.assertEqual(run.beat({A: 1}), {"y": (3, 0)})
        self.assertEqual(run.beat({A: 0, B: 1}), {"x": 2, "y": (2, 2)})

    def test_a_cell_that_begins(self):
        flat = Flat([(A, 1, ()), (B, 1, ())], [row(C, 3, ("add", c(I), lit(3, 1)))],
                    [cell(I, 3, 5, f(C), ((B, 1),), A)], [("x", (C,), ())])
        run = NetRun(Net(flat))
        told = []
        for begins, writes in ((0, 0), (0, 1), (0, 1), (1, 0), (0, 1), (1, 1), (0, 0)):
            told.append((run.beat({A: begins, B: writes})["x"], run.kept()[I]))
        self.assertEqual(told, [(6, 5), (6, 6), (7, 7), (6, 5), (6, 6), (6, 6), (7, 6)])

    def test_refusals(self):
        for thing in any_things():
            self.refused(FlowError, NoFlat, thing, Net, thing)
        self.refused(FlowError, NoFlat, Code, Net, Code)

    def test_how_deep(self):
        ins = [(A, 1, ()), (B, 1, ()), (D, 1, ())]
        cells = [cell(I, 1, 0, f(A), (), None)]
        for term, deep in ((f(A), 0), (lit(1, 1), 0), (c(I), 0), (("not", c(I)), 1), (("and", f(A), ("or", f(B), f(D))), 2),
                           (("and", ("not", f(A)), ("or", ("not", f(B)), ("xor", f(B), f(D)))), 3)):
            self.assertEqual(Net(flat_of(term, 1, *ins, cells=cells)).deep(), deep, term)


class Words(NetCase):
    def test_each_word_over_all_worths(self):
        for width in (1, 2, 3):
            ins = [(A, width, ()), (B, width, ()), (D, 1, ())]
            terms = [(word, f(A), f(B)) for word in ("and", "or", "xor", "add", "sub", "less", "same")]
            terms += [("not", f(A)), ("pick", f(D), f(A), f(B)), ("pick", f(D), f(A), ("not", f(A))), ("sub", f(A), f(A)), ("sub", lit(width, 0), f(B))]
            terms += [("wide", other, f(A)) for other in range(1, 9)] + [("bit", at, f(A)) for at in range(width)]
            for term in terms:
                own = 1 if term[0] in ("less", "same", "bit") else term[1] if term[0] == "wide" else width
                flat = flat_of(term, own, *ins)
                net, flat_run = Net(flat), FlatRun(flat)
                self.lean(net)
                run = NetRun(net)
                for one in range(2 ** width):
                    for other in range(2 ** width):
                        handed = {A: one, B: other, D: (one + other) % 3 % 2}
                        # Of a run of its own, as no run goes on for all of these.
                        if run.beats() == 120:
                            run, flat_run = NetRun(net), FlatRun(flat)
                        self.assertEqual(run.beat(handed), flat_run.beat(handed), term)


class Runs(NetCase):
    def setUp(self):
        self.flat = Flat([(A, 1, ()), (B, 4, ((A, 1),))], [row(C, 4, ("add", f(B), c(I)), ((A, 1),))],
                         [cell(I, 4, 5, f(C), ((A, 1),), None)], [("x", (C,), ((A, 1),))])
        self.net = Net(self.flat)

    def test_beats_kept_and_truths(self):
        run = NetRun(net=self.net)
        self.assertEqual((run.beats(), run.truths(), run.kept()), (0, [], {I: 5}))
        self.assertEqual(run.beat(ins={A: 1, B: 3}), {"x": 8})
        self.assertEqual((run.beats(), run.kept()), (1, {I: 8}))
        self.assertEqual(run.truths()[:5], [1, 1, 1, 0, 0])
        self.assertEqual(len(run.truths()), len(self.net))
        self.assertEqual(run.beat({A: 0}), {})
        self.assertEqual((run.beats(), run.kept(), run.truths()[:5]), (2, {I: 8}, [0, 0, 0, 0, 0]))

    def test_kept_worths_handed_in(self):
        kept = {I: 15}
        run = NetRun(self.net, kept=kept)
        self.assertEqual(run.beat({A: 1, B: 2}), {"x": 1})
        self.assertEqual(kept, {I: 15})
        for thing in any_things() + [{I: 16}, {I: -1}, {I: True}, {I: None}, {}, {J: 1}, {I: 1, J: 1}, {("i", 0): 1}, [I], {"i": 5}]:
            if thing is not None:
                self.refused(FlowError, NoWorths, thing, NetRun, self.net, kept=thing)

    def test_refusals(self):
        for thing in [*any_things(), self.flat, Code(self.flat)]:
            self.refused(FlowError, NoWires, thing, NetRun, thing, kept=thing)
        run = NetRun(self.net)
        run.beat({A: 1, B: 1})
        ahead = (run.kept(), run.truths(), run.beats())
        for thing in any_things() + [{A: 0, B: 1}, {A: 1}, {A: 1, B: 16}, {A: True, B: 1}, {A: 2}, {A: 1, B: 1, C: 1}, {"a": 0}, [(A, 0)]]:
            self.refused(FlowError, NoIns, thing, run.beat, thing)
        self.assertEqual((run.kept(), run.truths(), run.beats()), ahead)

    def test_over(self):
        run = NetRun(self.net)
        for _ in range(120):
            run.beat({A: 0})
        for thing in ({A: 0}, None, 1):
            self.refused_fields(Barred, Over, {"found": 120}, run.beat, thing)

    def test_a_twin_goes_its_own_way(self):
        run = NetRun(self.net)
        run.beat({A: 1, B: 1})
        twin = run.twin()
        self.assertIs(twin.__class__, NetRun)
        self.assertEqual((twin.kept(), twin.truths(), twin.beats()), (run.kept(), run.truths(), 1))
        twin.beat({A: 1, B: 1})
        self.assertEqual((run.kept(), run.beats(), twin.kept(), twin.beats()), ({I: 6}, 1, {I: 7}, 2))

    def test_told_lists_and_dicts_are_new(self):
        run = NetRun(self.net)
        told = run.beat({A: 1, B: 1})
        for tell in (run.kept, run.truths):
            ahead = tell().copy()
            tell().clear()
            self.assertEqual(tell(), ahead)
        told.clear()
        self.assertEqual(run.beat({A: 1, B: 1}), {"x": 7})


class WiresOf(NetCase):
    def test_what_stays_and_what_does_not(self):
        flat = Flat([(A, 1, ()), (B, 2, ((A, 1),))],
                    [row(C, 2, ("not", f(B)), ((A, 1),)), row(D, 2, ("and", f(C), f(B)), ((A, 1),)), row(("e",), 2, ("not", f(D)))],
                    [], [("x", (("e",),), ()), ("y", (C,), ((A, 1),))])
        net = Net(flat)
        self.assertEqual(net.wires_of(name=A), (net.outs()[0][1], (0,)))
        self.assertEqual(net.wires_of(B), (0, (1, 2)))
        self.assertEqual(net.wires_of(C), (0, net.outs()[1][2][0]))
        self.assertEqual(net.wires_of(("e",)), (net.outs()[0][1], net.outs()[0][2][0]))

    def test_none_where_one_did_not_stay(self):
        flat = Flat([(A, 2, ())], [row(C, 2, ("add", f(A), lit(2, 1))), row(D, 2, ("xor", f(A), f(A)))], [cell(I, 2, 0, f(A), (), None)], [])
        net = Net(flat)
        self.assertEqual(net.gates(), [("in", 0, 0), ("in", 0, 1)])
        self.assertEqual([net.wires_of(name) for name in (A, C, D)], [None, None, None])

    def test_refusals(self):
        net = Net(Flat([(A, 1, ())], [row(C, 1, f(A))], [cell(I, 1, 0, f(A), (), None)], [("x", (C,), ())]))
        for thing in [*NO_NAMES, *any_things(), I, ("z",), "x"]:
            self.refused(Missing, NotThere, thing, net.wires_of, thing)


class Beside(NetCase):
    def test_flat_lists_by_chance(self):
        for seed in range(400):
            flat = some_flat(seed)
            chance = random.Random(seed)
            kept = {cell[0]: chance.randrange(2 ** cell[1]) for cell in flat.cells()} if seed % 2 else None
            self.beside(seed, flat, [some_flat_ins(flat, chance) for _ in range(6)] if seed % 3 else None, kept, chance)

    def beside(self, seed, flat, rows, kept, chance):
        net = Net(flat)
        self.well_formed(net)
        self.lean(net)
        self.some_stay(net)
        run, flat_run, code_run = NetRun(net, kept=kept), FlatRun(flat, kept=kept), CodeRun(Code(flat), kept=kept)
        for at in range(6):
            ins = rows[at] if rows else some_flat_ins(flat, chance)
            told = flat_run.beat(ins)
            for other in (run, code_run):
                self.assertEqual(list(other.beat(ins).items()), list(told.items()), seed)
                self.assertEqual(list(other.kept().items()), list(flat_run.kept().items()), seed)
            self.same_worths(net, run.truths(), flat_run)
        return net

    def test_programs_by_chance(self):
        for seed, program, flat in opened_by_chance(120):
            net = Net(flat)
            self.well_formed(net)
            self.lean(net)
            self.some_stay(net)
            chance = random.Random(seed)
            run, net_run, flat_run = Run(program), NetRun(net), FlatRun(flat)
            for _ in range(5):
                ins = some_ins(program, chance)
                told = run.beat(ins)
                worths = flat_ins(program, ins)
                flat_run.beat(worths)
                self.assertEqual(list(net_run.beat(worths).items()), list(told.items()), seed)
                self.assertEqual(list(net_run.kept().items()), list(run.kept().items()), seed)
                self.same_worths(net, net_run.truths(), flat_run)


if __name__ == "__main__":
    import unittest
    unittest.main()
