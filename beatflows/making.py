"""Flat lists made to steps: by numbers of flows and cells alone, so that no name tells how."""

from beatflows.flat_rows import width_of_flat
from beatflows.terms import terms_within


class Maker:
    """The instructions of a flat list, the bearers for whom each of them stands, and how many registers they take.

    Each flat flow has a register of its own, of its number; what terms need besides lies behind these.
    """

    def __init__(self, flat):
        self._flows = [*flat.ins(), *flat.rows()]
        self._at = {flow[0]: at for at, flow in enumerate(self._flows)}
        self._widths = {flow[0]: flow[1] for flow in self._flows}
        self._cells = flat.cells()
        self._cell_at = {cell[0]: at for at, cell in enumerate(self._cells)}
        self._cell_widths = {cell[0]: cell[1] for cell in self._cells}
        self.most_registers = len(self._flows)
        self.instructions = []
        self.bearers = []
        for port, flow in enumerate(flat.ins()):
            self._add(flow[0], [("in", self._at[flow[0]], port)])
        for row in flat.rows():
            self._add(row[0], self._steps_of_row(row))
        for cell in self._cells:
            self._add(cell[0], self._steps_of_cell(cell))
        port = 0
        for name, flows, clock in flat.outs():
            ports = [("out", port + at, self._at[flow]) for at, flow in enumerate(flows)]
            self._add(name, self._under(clock, ports))
            port += len(flows)

    def _add(self, bearer, steps):
        self.instructions.extend(steps)
        self.bearers.extend([bearer for _ in steps])

    def _steps_of_row(self, row):
        name, _, clock, term = row
        target = self._at[name]
        steps = self._under(clock, self._steps_of_term(term, target, len(self._flows)))
        # A flow that is silent is read as 0; what always has a worth needs none ahead.
        return [("put", target, 0), *steps] if clock else steps

    def _steps_of_cell(self, cell):
        item, _, first, clock, term, begins = cell
        number = self._cell_at[item]
        spare = len(self._flows)
        if term[0] == "flat":
            steps = [("write", number, self._at[term[1]])]
        else:
            steps = [*self._steps_of_term(term, self._spare(spare), spare + 1), ("write", number, spare)]
        steps = self._under(clock, steps)
        if begins is None or not clock:
            return steps
        # The first goes there ahead: where the clock says so, the last write counts.
        begun = [("skip", self._at[begins], 1, 2), ("put", self._spare(spare), first), ("write", number, spare)]
        return [*begun, *steps]

    def _spare(self, number):
        """This register, that no flow has."""
        self.most_registers = max(self.most_registers, number + 1)
        return number

    def _under(self, clock, steps):
        """The steps, passed by where the clock doesn't say so."""
        told = list(steps)
        for at, truth in reversed(self._conditions(clock)):
            told.insert(0, ("skip", at, truth, len(told)))
        return told

    def _conditions(self, clock):
        """Which registers have to have which truths, where a clock says so, each pair once."""
        told = []
        waiting = list(reversed(clock))
        seen = {}
        while waiting:
            name, truth = waiting.pop()
            own = self._flows[self._at[name]][2]
            if truth == 0 and own and (name, truth) not in seen:
                # The register of a silent flow has 0, too, so its own clock has to say so first.
                seen[name, truth] = True
                waiting.append((name, truth))
                waiting.extend(list(reversed(own)))
            elif (self._at[name], truth) not in told:
                told.append((self._at[name], truth))
        return told

    def _steps_of_term(self, term, target, spare):
        """Steps that put the worth of a term into the target; registers from spare on are free."""
        word = term[0]
        if word == "lit":
            return [("put", target, term[2])]
        if word == "cell":
            return self._steps_of_read(term[1], target)
        if word == "flat":
            return [("do", target, "wide", self._widths[term[1]], (self._at[term[1]],), self._widths[term[1]])]
        steps = []
        held = []
        for at, part in enumerate(terms_within(term)):
            if part[0] == "flat":
                held.append(self._at[part[1]])
                continue
            # The target holds the first one, until all are there.
            place = target if at == 0 else self._spare(spare + at - 1)
            steps.extend(self._steps_of_term(part, place, spare + at))
            held.append(place)
        if word == "pick":
            return [*steps, ("pick", target, *held)]
        width = width_of_flat(terms_within(term)[0], self._widths, self._cell_widths)
        return [*steps, ("do", target, word, width, tuple(held), term[1] if word in ("wide", "bit") else 0)]

    def _steps_of_read(self, item, target):
        number = self._cell_at[item]
        _, _, first, _, _, begins = self._cells[number]
        steps = [("read", target, number)]
        if begins is not None:
            steps.extend([("skip", self._at[begins], 1, 1), ("put", target, first)])
        return steps


def longest_way(steps):
    """How many of these steps are taken at most: of all jumps they have `skip` alone, and each is taken or not."""
    told = [0]
    for step in reversed(steps):
        # Of each instruction behind this one it is told how many are taken from there on, the end being the first.
        left = len(told) - 1
        passed = step[3] if step[0] == "skip" else 0
        told.append(1 + max(told[left], told[left - passed]))
    return told[-1]
