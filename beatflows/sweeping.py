"""Beats of a flat list by all of its ins at once, and all memories that runs come to by them."""

from beatflows.errors import TooMany
from beatflows.flats import says_so
from beatflows.gates import truths_of
from beatflows.kinds import bits_of
from beatflows.wires import Net

# The most ins by which a beat is done at once.
MOST_INS = 256


def all_ins(flat):
    """All ins that a beat of a flat list may have, in order, as dicts; refuses with TooMany."""
    told = [{}]
    for name, width, clock in flat.ins():
        longer = []
        for ins in told:
            if says_so(clock, ins):
                longer.extend([{**ins, name: worth} for worth in range(1 << width)])
            else:
                longer.append(ins)
        # Each goes on in one way at least, so that they never come to fewer.
        if len(longer) > MOST_INS:
            raise TooMany(MOST_INS + 1)
        told = longer
    return told


class Sweeper:
    """Does beats of a flat list by all ins at once: of each truth, a whole number, the bit k is by the ins number k."""

    def __init__(self, flat):
        self._ins = all_ins(flat)
        self._net = Net(flat)
        self.every = (1 << len(self._ins)) - 1
        self._ports = []
        for name, width, _ in flat.ins():
            columns = [bits_of(width, ins.get(name, 0)) for ins in self._ins]
            self._ports.append([_packed([bits[bit] for bits in columns]) for bit in range(width)])

    def first(self):
        """The memory that runs have at first."""
        return tuple([cell[2] for cell in self._net.flat().cells()])

    def ins_at(self, number):
        ins = self._ins[number]
        return {name: ins[name] for name in ins}

    def swept(self, memory):
        """The truths of all wires at a beat that begins with this memory."""
        cells = []
        for worth, cell in zip(memory, self._net.flat().cells()):
            cells.append([self.every if bit == 1 else 0 for bit in bits_of(cell[1], worth)])
        return truths_of(self._net.gates(), self._ports, cells, self.every)

    def memories(self, truths):
        """The memories behind the beat, by each of the ins, in order."""
        columns = [self._worths_on(wires, truths) for _, _, wires in self._net.cells()]
        return [tuple([column[number] for column in columns]) for number in range(len(self._ins))]

    def bits_told(self, truths):
        """Of each out, by its name, whether it is there, and the truths of its bits, row by row."""
        told = {}
        for name, there, rows in self._net.outs():
            told[name] = (truths[there], [truths[wire] for row in rows for wire in row])
        return told

    def _worths_on(self, wires, truths):
        worths = [0] * len(self._ins)
        for bit, wire in enumerate(wires):
            truth = truths[wire]
            worths = [worth + (((truth >> number) & 1) << bit) for number, worth in enumerate(worths)]
        return worths


class SayingSweep:
    """Beats of a flat list, at which a saying, one of its outs, may fall; with None there is none that may."""

    def __init__(self, flat, out):
        self._sweeper = Sweeper(flat)
        self._out = out

    def first(self):
        return self._sweeper.first()

    def ins_at(self, number):
        return self._sweeper.ins_at(number)

    def step(self, memory):
        """The number of the first ins by which the saying falls, or None; the memories by all ins, in order."""
        truths = self._sweeper.swept(memory)
        if self._out is None:
            return None, self._sweeper.memories(truths)
        there, bits = self._sweeper.bits_told(truths)[self._out]
        fallen = there & (bits[0] ^ self._sweeper.every)
        return _lowest(fallen), self._sweeper.memories(truths)


class PairSweep:
    """Beats of two flat lists of the same ins and outs, side by side, at which they may tell unlike dicts."""

    def __init__(self, one, other):
        self._one = Sweeper(one)
        self._other = Sweeper(other)

    def first(self):
        return self._one.first(), self._other.first()

    def ins_at(self, number):
        return self._one.ins_at(number)

    def step(self, pair):
        """The number of the first ins by which they are parted, or None; the pairs of memories by all ins, in order."""
        one = self._one.swept(pair[0])
        other = self._other.swept(pair[1])
        told = self._one.bits_told(one)
        told_too = self._other.bits_told(other)
        parted = 0
        for name in told:
            there, bits = told[name]
            parted = parted | (there ^ told_too[name][0])
            for bit, bit_too in zip(bits, told_too[name][1]):
                parted = parted | (there & (bit ^ bit_too))
        return _lowest(parted), list(zip(self._one.memories(one), self._other.memories(other)))


class Walk:
    """All that runs come to, beat by beat, up to the first beat at which something is met.

    `ahead` tells of each memory, or pair, from which one and by the ins of which number it was first come to, None of
    the first one; `met` of what was met the one and the number by which it was, None where nothing was.
    """

    def __init__(self, sweep, most):
        self.ahead = {sweep.first(): None}
        self.met = None
        edge = [sweep.first()]
        while edge:
            edge = self._edge_behind(sweep, edge, most)
            # What is met goes ahead of what comes behind its beat, however many that is.
            if self.met is None and len(self.ahead) > most:
                raise TooMany(most + 1)

    def rows(self, sweep):
        """The ins by which it came to what was met."""
        one, number = self.met
        told = [sweep.ins_at(number)]
        while self.ahead[one] is not None:
            one, number = self.ahead[one]
            told.append(sweep.ins_at(number))
        return told[::-1]

    def beats(self):
        """Of each memory, or pair, rising, the fewest beats done ahead of it."""
        told = {}
        for one in self.ahead:
            near = self.ahead[one]
            told[one] = 0 if near is None else told[near[0]] + 1
        return {one: told[one] for one in sorted(told)}

    def _edge_behind(self, sweep, edge, most):
        """All that these lead to that wasn't come to yet, none where something is met; of too much what tells so."""
        fresh = []
        for one in edge:
            number, behind = sweep.step(one)
            if number is not None:
                self.met = (one, number)
                return []
            for at, near in enumerate(behind):
                if near not in self.ahead and len(self.ahead) <= most:
                    self.ahead[near] = (one, at)
                    fresh.append(near)
        return fresh


def _packed(truths):
    """The whole number of which these are the bits, the lowest first."""
    told = 0
    for at, truth in enumerate(truths):
        told = told | (truth << at)
    return told


def _lowest(number):
    """The number of the lowest bit that is 1, None where there is none."""
    if number == 0:
        return None
    return (number & -number).bit_length() - 1
