"""Wires: flat lists made to gates, and runs of these."""

from beatflows.bounds import MOST_BEATS
from beatflows.errors import NoWires, Over
from beatflows.flats import as_told, need_flat, need_ins, need_kept
from beatflows.gates import WORDS_OF_NONE, truths_of, wires_read
from beatflows.kinds import bits_of, of_bits
from beatflows.netting import NetMaker
from beatflows.standing import Standing


class Net:
    """The wires of a flat list; they never change."""

    def __init__(self, flat):
        need_flat(flat)
        maker = NetMaker(flat)
        self._flat = flat
        self._gates = maker.lean_gates
        self._of_flows = maker.of_flows
        self._of_cells = maker.of_cells
        self._of_outs = maker.of_outs
        self._deep = _deepest(self._gates)
        # Made when it is first asked for: most nets are but run.
        self._standing = None

    def __len__(self):
        return len(self._gates)

    def flat(self):
        return self._flat

    def gates(self):
        return list(self._gates)

    def ins(self):
        return self._flat.ins()

    def cells(self):
        told = []
        for cell, wires in zip(self._flat.cells(), self._of_cells):
            item, width, first, _, _, _ = cell
            told.append((item, tuple(bits_of(width, first)), wires))
        return told

    def outs(self):
        told = []
        for out, wires in zip(self._flat.outs(), self._of_outs):
            there, rows = wires
            told.append((out[0], there, rows))
        return told

    def deep(self):
        return self._deep

    def wires_of(self, name):
        # What is no flat name of the list is refused by the list itself.
        self._flat.width(name)
        return self._of_flows[name]

    def standing(self):
        """What each wire is, and to what it leads."""
        if self._standing is None:
            self._standing = Standing(self)
        return self._standing


class NetRun:
    """A run of a net, beat by beat."""

    def __init__(self, net, *, kept=None):
        need_net(net)
        self._net = net
        self._kept = need_kept(net.flat(), kept)
        self._truths = []
        self._beats = 0

    def beat(self, ins):
        if self._beats >= MOST_BEATS:
            raise Over(self._beats)
        handed = need_ins(self._net.flat(), ins)
        ports = [bits_of(width, handed.get(name, 0)) for name, width, _ in self._net.ins()]
        cells = [bits_of(len(firsts), self._kept[item]) for item, firsts, _ in self._net.cells()]
        truths = truths_of(self._net.gates(), ports, cells, 1)
        told = {}
        for name, there, rows in self._net.outs():
            if truths[there] == 1:
                told[name] = as_told([_worth_on(row, truths) for row in rows])
        self._kept = {item: _worth_on(wires, truths) for item, _, wires in self._net.cells()}
        self._truths = truths
        self._beats += 1
        return told

    def kept(self):
        return {item: self._kept[item] for item in self._kept}

    def truths(self):
        return list(self._truths)

    def beats(self):
        return self._beats

    def twin(self):
        other = NetRun(self._net, kept=self._kept)
        other._truths = list(self._truths)
        other._beats = self._beats
        return other


def need_net(thing):
    if not isinstance(thing, Net):
        raise NoWires(thing)


def _worth_on(wires, truths):
    return of_bits([truths[wire] for wire in wires])


def _deepest(gates):
    """The most gates but `in`, `cell` and `lit` on a way of wires."""
    deep = []
    for gate in gates:
        ahead = max([deep[wire] for wire in wires_read(gate)], default=0)
        deep.append(ahead if gate[0] in WORDS_OF_NONE else ahead + 1)
    return max(deep, default=0)
