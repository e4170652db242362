"""Promise 95: for whom instructions stand, what wires are, and to what they lead."""

from beatflows.errors import FlowError, Missing, NoCode, NotThere, NoWires
from beatflows.flats import Flat
from beatflows.steps import Code
from beatflows.traces import bits_at, for_whom, leads
from beatflows.wires import Net
from tests.beside import opened_by_chance
from tests.flat_chance import some_flat
from tests.helper import RefusalCase, any_things
from tests.test_flats import A, B, C, D, I, J, c, cell, f, lit, row

WORDS = ("has", "there", "gets", "told")

FLAT = Flat([(A, 2, ()), (B, 1, ())], [row(C, 2, ("add", f(A), c(I)), ((B, 1),)), row(D, 2, ("xor", f(C), lit(2, 3)))],
            [cell(I, 2, 1, f(D), ((B, 1),), None)], [("x", (C, A), ((B, 1),)), ("y", (B,), ())])


def all_bits(net):
    """Of each wire what it is, by promise 95, in its order."""
    flat = net.flat()
    told = {wire: [] for wire in range(len(net))}
    for at, (name, width, _) in enumerate(flat.ins()):
        for bit in range(width):
            told[net.gates().index(("in", at, bit))].append(("has", name, bit))
    for name, _, _, _ in flat.rows():
        if net.wires_of(name) is not None:
            for bit, wire in enumerate(net.wires_of(name)[1]):
                told[wire].append(("has", name, bit))
    for at, (item, width, _, _, _, _) in enumerate(flat.cells()):
        for bit in range(width):
            if ("cell", at, bit) in net.gates():
                told[net.gates().index(("cell", at, bit))].append(("has", item, bit))
    for name in [one[0] for one in flat.ins() + flat.rows()]:
        if net.wires_of(name) is not None:
            told[net.wires_of(name)[0]].append(("there", name, 0))
    for name, there, _ in net.outs():
        told[there].append(("there", name, 0))
    for item, _, wires in net.cells():
        for bit, wire in enumerate(wires):
            told[wire].append(("gets", item, bit))
    for name, _, rows in net.outs():
        for bit, wire in enumerate([wire for one in rows for wire in one]):
            told[wire].append(("told", name, bit))
    return told


def order_of(net):
    flat = net.flat()
    names = [one[0] for one in flat.ins() + flat.rows() + flat.cells() + flat.outs()]
    return lambda one: (WORDS.index(one[0]), names.index(one[1]), one[2])


class Instructions(RefusalCase):
    def whole(self, code):
        flat = code.flat()
        told = [for_whom(code=code, at=at) for at in range(len(code))]
        awaited = [one[0] for one in flat.ins() + flat.rows() + flat.cells() + flat.outs()]
        # Each of them has some, that stand together.
        together = [name for at, name in enumerate(told) if at == 0 or told[at - 1] != name]
        self.assertEqual(sorted(together, key=awaited.index), awaited)
        for step, name in zip(code.steps(), told):
            if step[0] == "in":
                self.assertEqual(name, flat.ins()[step[2]][0])
            elif step[0] == "out":
                self.assertEqual(name, code.outs()[step[1]][0])
            elif step[0] == "write":
                self.assertEqual(name, flat.cells()[step[1]][0])

    def test_each_has_some_that_stand_together(self):
        self.whole(Code(FLAT))
        for seed in range(150):
            self.whole(Code(some_flat(seed)))
        for _, _, flat in opened_by_chance(30):
            self.whole(Code(flat))

    def test_refusals(self):
        for thing in [*any_things(), FLAT, Net(FLAT)]:
            self.refused(FlowError, NoCode, thing, for_whom, thing, thing)
        code = Code(FLAT)
        for thing in [len(code), -1, True, None, "0", (0,), [0], 10 ** 29, {}]:
            self.refused(Missing, NotThere, thing, for_whom, code, thing)
        self.refused(Missing, NotThere, 0, for_whom, Code(Flat([], [], [], [])), 0)


class Wires(RefusalCase):
    def whole(self, net):
        awaited, key = all_bits(net), order_of(net)
        readers = {wire: [] for wire in awaited}
        for wire, gate in enumerate(net.gates()):
            if gate[0] in ("not", "and", "or", "xor"):
                for read in gate[1:]:
                    readers[read].append(wire)
        lead = {}
        for wire in reversed(range(len(net))):
            self.assertEqual(bits_at(net=net, wire=wire), awaited[wire])
            self.assertEqual(awaited[wire], sorted(awaited[wire], key=key))
            lead[wire] = awaited[wire] or sorted({one for reader in readers[wire] for one in lead[reader]}, key=key)
            self.assertEqual(leads(net=net, wire=wire), lead[wire])
            self.assertTrue(lead[wire])

    def test_word_for_word(self):
        net = Net(FLAT)
        self.assertEqual(bits_at(net, 0), [("has", A, 0), ("told", "x", 2)])
        self.assertEqual(bits_at(net, 1), [("has", A, 1), ("told", "x", 3)])
        # The in `b` says, too, whether `c` and the out `x` are there; it has a wire there of its own.
        self.assertEqual(bits_at(net, 2), [("has", B, 0), ("there", C, 0), ("there", "x", 0), ("told", "y", 0)])
        one = net.gates().index(("lit", 1))
        self.assertEqual(bits_at(net, one), [("there", A, 0), ("there", B, 0), ("there", D, 0), ("there", "y", 0)])
        self.assertEqual(bits_at(net, net.gates().index(("cell", 0, 1))), [("has", I, 1)])
        there, bits = net.wires_of(C)
        self.assertEqual(there, 2)
        self.assertEqual(bits_at(net, bits[0]), [("has", C, 0), ("told", "x", 0)])
        self.assertEqual(bits_at(net, net.cells()[0][2][0])[-1], ("gets", I, 0))
        inner = [wire for wire in range(len(net)) if not bits_at(net, wire)]
        self.assertTrue(inner)
        for wire in inner:
            self.assertLessEqual(set(leads(net, wire)), {one for at in range(len(net)) for one in bits_at(net, at)})

    def test_an_in_that_goes_nowhere_is_something(self):
        net = Net(Flat([(A, 2, ())], [], [], []))
        self.assertEqual([leads(net, wire) for wire in (0, 1)], [[("has", A, 0)], [("has", A, 1)]])

    def test_whole_nets(self):
        self.whole(Net(FLAT))
        for seed in range(150):
            self.whole(Net(some_flat(seed)))
        for _, _, flat in opened_by_chance(25):
            if len(flat) < 60:
                self.whole(Net(flat))

    def test_refusals(self):
        net = Net(FLAT)
        for function in (bits_at, leads):
            for thing in [*any_things(), FLAT, Code(FLAT)]:
                self.refused(FlowError, NoWires, thing, function, thing, thing)
            for thing in [len(net), -1, True, None, "0", (0,), [0], 10 ** 29, {}]:
                self.refused(Missing, NotThere, thing, function, net, thing)

    def test_told_lists_are_new(self):
        net = Net(FLAT)
        for function in (bits_at, leads):
            ahead = list(function(net, 2))
            function(net, 2).clear()
            self.assertEqual(function(net, 2), ahead)


class Cells(RefusalCase):
    def test_a_cell_that_keeps_itself(self):
        net = Net(Flat([], [], [cell(J, 1, 0, c(J), (), None)], []))
        self.assertEqual(net.gates(), [("cell", 0, 0)])
        self.assertEqual(bits_at(net, 0), [("has", J, 0), ("gets", J, 0)])


if __name__ == "__main__":
    import unittest
    unittest.main()
