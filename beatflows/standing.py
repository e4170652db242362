"""What the wires of a net are, and to what they lead."""

from beatflows.gates import wires_read


class Standing:
    """What each wire of a net is: tuples (word, thing, bit), each of them numbered in their order."""

    def __init__(self, net):
        self._tuples = []
        # By wires: the numbers of what each is, and the wires that read it.
        self._numbers = [[] for _ in range(len(net))]
        self._readers = [[] for _ in range(len(net))]
        for wire, gate in enumerate(net.gates()):
            for read in wires_read(gate):
                self._readers[read].append(wire)
        self._add_what_has(net)
        self._add_what_is_there(net)
        for item, _, wires in net.cells():
            self._add_bits("gets", item, wires)
        for name, _, rows in net.outs():
            self._add_bits("told", name, [wire for row in rows for wire in row])

    def of_wire(self, wire):
        return [self._tuples[number] for number in self._numbers[wire]]

    def led_to(self, wire):
        """What it is, or, where it is nothing, all to which the wires lead that read it."""
        numbers = []
        seen = {wire: True}
        waiting = [wire]
        while waiting:
            near = waiting.pop()
            numbers.extend(self._numbers[near])
            if not self._numbers[near]:
                fresh = [reader for reader in self._readers[near] if reader not in seen]
                waiting.extend(fresh)
                for reader in fresh:
                    seen[reader] = True
        return [self._tuples[number] for number in sorted({number: True for number in numbers})]

    def _add_what_has(self, net):
        flat = net.flat()
        at = {gate: wire for wire, gate in enumerate(net.gates())}
        for port, (name, width, _) in enumerate(flat.ins()):
            # An in's bits are its gates alone, though other wires may have the same truths.
            self._add_bits("has", name, [at["in", port, bit] for bit in range(width)])
        for name, _, _, _ in flat.rows():
            wires = net.wires_of(name)
            if wires is not None:
                self._add_bits("has", name, wires[1])
        for number, (item, width, _, _, _, _) in enumerate(flat.cells()):
            for bit in range(width):
                if ("cell", number, bit) in at:
                    self._add("has", item, bit, at["cell", number, bit])

    def _add_what_is_there(self, net):
        flat = net.flat()
        for flow in [*flat.ins(), *flat.rows()]:
            wires = net.wires_of(flow[0])
            if wires is not None:
                self._add("there", flow[0], 0, wires[0])
        for name, there, _ in net.outs():
            self._add("there", name, 0, there)

    def _add_bits(self, word, thing, wires):
        for bit, wire in enumerate(wires):
            self._add(word, thing, bit, wire)

    def _add(self, word, thing, bit, wire):
        self._numbers[wire].append(len(self._tuples))
        self._tuples.append((word, thing, bit))
