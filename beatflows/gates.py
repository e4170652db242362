"""Gates over wires: made lean, each of them once, and worked out for one beat, or for many at once."""

# The words of gates that read no other wire, and those that read two.
WORDS_OF_NONE = ("in", "cell", "lit")
WORDS_OF_TWO = ("and", "or", "xor")


class Gates:
    """Gates, each behind those that it reads; wires are their numbers.

    No two of them are equal, none reads a `lit`, no `not` reads a `not`, none a wire and the `not` of it.
    """

    def __init__(self):
        self._gates = []
        self._wires = {}

    def all_gates(self):
        return list(self._gates)

    def wire(self, gate):
        """The wire of this very gate, made where there is none yet."""
        if gate not in self._wires:
            self._wires[gate] = len(self._gates)
            self._gates.append(gate)
        return self._wires[gate]

    def lit(self, truth):
        return self.wire(("lit", truth))

    def not_of(self, wire):
        gate = self._gates[wire]
        if gate[0] == "lit":
            return self.lit(1 - gate[1])
        if gate[0] == "not":
            return gate[1]
        return self.wire(("not", wire))

    def and_of(self, one, other):
        if one == other:
            return one
        if self._are_unlike(one, other):
            return self.lit(0)
        for wire, rest in ((one, other), (other, one)):
            if self._is_lit(wire):
                return rest if self._gates[wire][1] == 1 else wire
        return self.wire(("and", min(one, other), max(one, other)))

    def or_of(self, one, other):
        if one == other:
            return one
        if self._are_unlike(one, other):
            return self.lit(1)
        for wire, rest in ((one, other), (other, one)):
            if self._is_lit(wire):
                return wire if self._gates[wire][1] == 1 else rest
        return self.wire(("or", min(one, other), max(one, other)))

    def xor_of(self, one, other):
        if one == other:
            return self.lit(0)
        if self._are_unlike(one, other):
            return self.lit(1)
        for wire, rest in ((one, other), (other, one)):
            if self._is_lit(wire):
                return self.not_of(rest) if self._gates[wire][1] == 1 else rest
        return self.wire(("xor", min(one, other), max(one, other)))

    def pick_of(self, condition, one, other):
        """The wire that has what `one` has where the condition has 1, else what the other has."""
        if one == other:
            return one
        return self.or_of(self.and_of(condition, one), self.and_of(self.not_of(condition), other))

    def _is_lit(self, wire):
        return self._gates[wire][0] == "lit"

    def _are_unlike(self, one, other):
        """Tell whether one is the `not` of the other."""
        return self._gates[one] == ("not", other) or self._gates[other] == ("not", one)


def wires_read(gate):
    """The wires that a gate reads, in order."""
    return [] if gate[0] in WORDS_OF_NONE else list(gate[1:])


def truths_of(gates, ports, cells, every):
    """The truths of all wires, ports and cells being lists of lists of truths, bit by bit.

    Many beats are done at once: each truth is a whole number, of which the bit k is for the beat number k; `every`
    has all of these bits, 1 where it is one beat alone.
    """
    truths = []
    for gate in gates:
        word = gate[0]
        if word == "in":
            truths.append(ports[gate[1]][gate[2]])
        elif word == "cell":
            truths.append(cells[gate[1]][gate[2]])
        elif word == "lit":
            truths.append(every if gate[1] == 1 else 0)
        elif word == "not":
            truths.append(every ^ truths[gate[1]])
        elif word == "and":
            truths.append(truths[gate[1]] & truths[gate[2]])
        elif word == "or":
            truths.append(truths[gate[1]] | truths[gate[2]])
        else:
            truths.append(truths[gate[1]] ^ truths[gate[2]])
    return truths
