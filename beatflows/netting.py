"""Flat lists made to gates: flows, cells and outs bit by bit, then what nothing reads left out."""

from beatflows.gates import Gates, wires_read
from beatflows.kinds import bits_of
from beatflows.terms import terms_within


class NetMaker:
    """The gates of a flat list, and the wires of its flows, cells and outs.

    Of each flow, by its name, a tuple: the wire that says whether it is there, and those of its bits, that have
    noughts where it is not, or None, where one of them didn't stay; of each cell the wires that its bits get; of each
    out the wire that says whether it is there, and tuples of those of its bits.
    """

    def __init__(self, flat):
        self._gates = Gates()
        self._made = {}
        self._cell_at = {cell[0]: at for at, cell in enumerate(flat.cells())}
        self._cells = flat.cells()
        self._make_flows(flat)
        cells = [self._bits_behind(cell) for cell in self._cells]
        outs = [(self._wire_of_clock(clock), self._rows_of(names)) for _, names, clock in flat.outs()]
        self._numbers = _numbered_anew(self._gates.all_gates(), _wires_in(cells, outs))
        self.lean_gates = self._gates_that_stay()
        self.of_flows = {name: self._that_stays(name) for name in self._made}
        self.of_cells = [self._anew(bits) for bits in cells]
        self.of_outs = [(self._numbers[there], tuple([self._anew(row) for row in rows])) for there, rows in outs]

    def _make_flows(self, flat):
        ports = []
        # All gates of ports are made ahead of any other one.
        for port, (_, width, _) in enumerate(flat.ins()):
            ports.append([self._gates.wire(("in", port, bit)) for bit in range(width)])
        for port, (name, _, clock) in enumerate(flat.ins()):
            self._made[name] = (self._wire_of_clock(clock), ports[port])
        for name, _, clock, term in flat.rows():
            there = self._wire_of_clock(clock)
            bits = [self._gates.and_of(there, bit) for bit in self._bits(term)]
            self._made[name] = (there, bits)

    def _wire_of_clock(self, clock):
        wire = self._gates.lit(1)
        for name, truth in clock:
            there, bits = self._made[name]
            # The bits have noughts where the flow is silent, so 1 alone tells that it is there.
            says = bits[0] if truth == 1 else self._gates.and_of(there, self._gates.not_of(bits[0]))
            wire = self._gates.and_of(wire, says)
        return wire

    def _rows_of(self, names):
        return [self._made[name][1] for name in names]

    def _bits_behind(self, cell):
        """The wires that the bits of a cell get behind the beat."""
        item, _, _, clock, term, _ = cell
        says = self._wire_of_clock(clock)
        told = self._bits(term)
        return [self._gates.pick_of(says, one, other) for one, other in zip(told, self._bits_of_cell(item))]

    def _bits_of_cell(self, item):
        """The wires of what a cell reads as."""
        number = self._cell_at[item]
        _, width, first, _, _, begins = self._cells[number]
        kept = [self._gates.wire(("cell", number, bit)) for bit in range(width)]
        if begins is None:
            return kept
        begun = self._made[begins][1][0]
        firsts = [self._gates.lit(truth) for truth in bits_of(width, first)]
        return [self._gates.pick_of(begun, one, other) for one, other in zip(firsts, kept)]

    def _bits(self, term):
        """The wires of what a flat term tells, from the lowest bit on."""
        word = term[0]
        if word == "lit":
            return [self._gates.lit(truth) for truth in bits_of(term[1], term[2])]
        if word == "flat":
            return self._made[term[1]][1]
        if word == "cell":
            return self._bits_of_cell(term[1])
        parts = [self._bits(part) for part in terms_within(term)]
        if word == "pick":
            condition = parts[0][0]
            return [self._gates.pick_of(condition, one, other) for one, other in zip(parts[1], parts[2])]
        if word == "wide":
            noughts = [self._gates.lit(0) for _ in range(term[1])]
            return [*parts[0], *noughts][:term[1]]
        if word == "bit":
            return [parts[0][term[1]]]
        if word == "not":
            return [self._gates.not_of(bit) for bit in parts[0]]
        return self._bits_of_two(word, parts[0], parts[1])

    def _bits_of_two(self, word, ones, others):
        if word == "and":
            return [self._gates.and_of(one, other) for one, other in zip(ones, others)]
        if word == "or":
            return [self._gates.or_of(one, other) for one, other in zip(ones, others)]
        if word == "xor":
            return [self._gates.xor_of(one, other) for one, other in zip(ones, others)]
        if word == "add":
            return self._added(ones, others, self._gates.lit(0))[0]
        if word == "same":
            wire = self._gates.lit(1)
            for one, other in zip(ones, others):
                wire = self._gates.and_of(wire, self._gates.not_of(self._gates.xor_of(one, other)))
            return [wire]
        # To take away is to add the `not` of it and one; what is carried out tells that it was no more.
        bits, carry = self._added(ones, [self._gates.not_of(bit) for bit in others], self._gates.lit(1))
        return bits if word == "sub" else [self._gates.not_of(carry)]

    def _added(self, ones, others, carry):
        """The wires of a sum, and of what is carried out of it."""
        bits = []
        for one, other in zip(ones, others):
            half = self._gates.xor_of(one, other)
            bits.append(self._gates.xor_of(half, carry))
            carry = self._gates.or_of(self._gates.and_of(one, other), self._gates.and_of(half, carry))
        return bits, carry

    def _gates_that_stay(self):
        told = []
        for wire, gate in enumerate(self._gates.all_gates()):
            if wire in self._numbers:
                read = self._anew(wires_read(gate))
                told.append((gate[0], *read) if read else gate)
        return told

    def _that_stays(self, name):
        there, bits = self._made[name]
        if not all([wire in self._numbers for wire in [there, *bits]]):
            return None
        return self._numbers[there], self._anew(bits)

    def _anew(self, wires):
        return tuple([self._numbers[wire] for wire in wires])


def _wires_in(cells, outs):
    """The wires that go to cells and outs."""
    told = []
    for bits in cells:
        told.extend(bits)
    for there, rows in outs:
        told.append(there)
        for row in rows:
            told.extend(row)
    return told


def _numbered_anew(gates, going):
    """The new numbers of the wires that stay: those of the gates `in`, those that go somewhere, and all they read."""
    stays = {wire: True for wire in going}
    # A gate reads those ahead of it alone, so that backwards each is met behind all that read it.
    for wire, gate in reversed(list(enumerate(gates))):
        if gate[0] == "in":
            stays[wire] = True
        elif wire in stays:
            for read in wires_read(gate):
                stays[read] = True
    return {wire: at for at, wire in enumerate(sorted(stays))}
