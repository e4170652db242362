"""Steps: flat lists made to instructions over registers, cells and ports, and runs of these."""

from beatflows.bounds import MOST_BEATS
from beatflows.errors import NoCode, NoNumber, Over, TooMany
from beatflows.flats import as_told, need_flat, need_ins, need_kept, says_so
from beatflows.instructions import are_instructions
from beatflows.kinds import is_number, is_whole, reckoned
from beatflows.making import Maker, longest_way

# A room that is handed in goes up to this.
MOST_ROOM = 999


def are_steps(thing, *, registers, cells, ins, outs):
    room = {"registers": registers, "cells": cells, "ins": ins, "outs": outs}
    if not all([is_number(room[slot]) and room[slot] >= 0 for slot in room]):
        return False
    return are_instructions(thing, room)


class Code:
    """The steps of a flat list; they never change."""

    def __init__(self, flat, *, room=None):
        need_flat(flat)
        if room is not None and not is_whole(room, 1, MOST_ROOM):
            raise NoNumber(room)
        maker = Maker(flat)
        self._flat = flat
        self._steps = tuple(maker.instructions)
        self._stands = tuple(maker.bearers)
        self._registers = maker.most_registers
        self._most = longest_way(self._steps)
        if room is not None and self.room() > room:
            raise TooMany(self.room())

    def __len__(self):
        return len(self._steps)

    def steps(self):
        return self._steps

    def registers(self):
        return self._registers

    def room(self):
        return self._registers + len(self._flat.cells())

    def most(self):
        return self._most

    def cells(self):
        return [(item, width, first) for item, width, first, _, _, _ in self._flat.cells()]

    def ins(self):
        return self._flat.ins()

    def outs(self):
        told = []
        for name, flows, _ in self._flat.outs():
            told.extend([(name, at) for at in range(len(flows))])
        return told

    def flat(self):
        return self._flat

    def stands(self):
        """For each instruction the flat name, the item or the out's name for which it stands."""
        return list(self._stands)


class CodeRun:
    """A run of a code, beat by beat."""

    def __init__(self, code, *, kept=None):
        if not isinstance(code, Code):
            raise NoCode(code)
        self._code = code
        self._kept = need_kept(code.flat(), kept)
        self._beats = 0
        self._taken = 0
        self._registers = [0] * code.registers()

    def beat(self, ins):
        if self._beats >= MOST_BEATS:
            raise Over(self._beats)
        turn = Turn(self._code, self._kept, need_ins(self._code.flat(), ins))
        while not turn.ended():
            turn.step()
        told = turn.outs()
        self._kept = turn.kept()
        self._taken = turn.taken()
        self._registers = turn.registers()
        self._beats += 1
        return told

    def kept(self):
        return {item: self._kept[item] for item in self._kept}

    def beats(self):
        return self._beats

    def taken(self):
        return self._taken

    def registers(self):
        return list(self._registers)

    def twin(self):
        other = CodeRun(self._code, kept=self._kept)
        other._beats = self._beats
        other._taken = self._taken
        other._registers = list(self._registers)
        return other


class Turn:
    """One beat of a code, step by step, begun with what is kept and the worths of the ins that aren't silent."""

    def __init__(self, code, kept, ins):
        self._code = code
        self._steps = code.steps()
        self._ports_in = [ins.get(port[0], 0) for port in code.ins()]
        self._items = [cell[0] for cell in code.cells()]
        self._cells = [kept[item] for item in self._items]
        self._registers = [0] * code.registers()
        self._spot = 0
        self._taken = 0
        # By numbers of cells and ports: what counts behind the last step alone.
        self._written = {}
        self._ports_out = {}

    def step(self):
        """Do one instruction, of a code, that has no `go`; none is left where the turn has ended."""
        if self.ended():
            return
        step = self._steps[self._spot]
        self._spot += 1
        self._taken += 1
        word = step[0]
        if word == "write":
            self._written[step[1]] = self._registers[step[2]]
        elif word == "out":
            self._ports_out[step[1]] = self._registers[step[2]]
        elif word == "skip":
            if self._registers[step[1]] != step[2]:
                self._spot += step[3]
        else:
            self._registers[step[1]] = self._worth_of(step)

    def spot(self):
        """The number of the instruction that is done next."""
        return self._spot

    def ended(self):
        return self._spot >= len(self._steps)

    def taken(self):
        return self._taken

    def registers(self):
        return list(self._registers)

    def copied(self):
        """Another turn that stands where this one does, and goes its own way."""
        other = Turn(self._code, self._kept_ahead(), {})
        other._ports_in = list(self._ports_in)
        other._registers = list(self._registers)
        other._spot = self._spot
        other._taken = self._taken
        other._written = {at: self._written[at] for at in self._written}
        other._ports_out = {port: self._ports_out[port] for port in self._ports_out}
        return other

    def outs(self):
        """What the beat tells, behind its last instruction."""
        told = {}
        port = 0
        for name, flows, _ in self._code.flat().outs():
            ports = list(range(port, port + len(flows)))
            if ports[0] in self._ports_out:
                told[name] = as_told([self._ports_out[at] for at in ports])
            port += len(flows)
        return told

    def kept(self):
        """All that is kept behind the last instruction."""
        return {item: self._written.get(at, self._cells[at]) for at, item in enumerate(self._items)}

    def _kept_ahead(self):
        return {item: self._cells[at] for at, item in enumerate(self._items)}

    def _worth_of(self, step):
        """What the register of an instruction that gives one a worth gets."""
        word = step[0]
        if word == "put":
            return step[2]
        if word == "read":
            return self._cells[step[2]]
        if word == "in":
            return self._ports_in[step[2]]
        if word == "pick":
            return self._registers[step[3] if self._registers[step[2]] == 1 else step[4]]
        _, _, name, width, args, more = step
        to = more if name == "wide" else 1
        at = more if name == "bit" else 0
        return reckoned(name, width, [self._registers[arg] for arg in args], to=to, at=at)


def wanted_ins(flat, worths):
    """In order, the flat names of the ins whose clocks say so by these worths, those of silent ins left out."""
    told = {}
    wanted = []
    for name, _, clock in flat.ins():
        if says_so(clock, told):
            wanted.append(name)
            if name in worths:
                told[name] = worths[name]
    return wanted
