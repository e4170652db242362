"""Traces: where all that a program was made to comes from, and by what it had its worths."""

from beatflows.bounds import MOST_BEATS
from beatflows.errors import NoCode, NoIns, NoNumber, NotThere
from beatflows.flat_rows import is_flat_name
from beatflows.flats import need_flat, need_ins
from beatflows.kinds import is_list, is_whole
from beatflows.layout import layout_of
from beatflows.opening import flat_ins, opened
from beatflows.origins import Origins
from beatflows.recording import Record, is_reason, reason_for
from beatflows.runs import Run
from beatflows.steps import Code
from beatflows.wires import need_net


def origin(program, name):
    flat = opened(program)
    if not is_flat_name(name) or name not in _things_of(flat):
        raise NotThere(name)
    return Origins(layout_of(program)).origin_of(name)


def found_by(program, place, at):
    flat = opened(program)
    origins = Origins(layout_of(program))
    if not origins.has_let(place, at):
        raise NotThere((place, at))
    told = []
    for flow in [*flat.ins(), *flat.rows()]:
        found = origins.origin_of(flow[0])
        if found[0] == place and found[2] == "let" and found[3] == at:
            told.append(flow[0])
    return told


class Trace(Run):
    """A run that remembers all its beats, and tells by what it had its worths."""

    def __init__(self, program):
        # Looked at first: what is too much to be opened up is never run.
        flat = opened(program)
        super().__init__(program)
        self._history = Record(flat)

    def beat(self, ins):
        told = super().beat(ins)
        self._history.do_beat(flat_ins(self._program, ins))
        return told

    def fresh(self):
        return Trace(self._program)

    def lay(self, other):
        super().lay(other)
        self._history.lay(other._history)

    def had(self, name, beat):
        self._need_known(name, beat)
        return self._history.had(name, beat)

    def since(self, item, beat):
        if not self._history.knows_item(item):
            raise NotThere(item)
        self._need_known(item, beat)
        return self._history.since(item, beat)

    def reason(self, name, beat):
        self._need_known(name, beat)
        return reason_for(self._history, name, beat)

    def _need_known(self, name, beat):
        if not self._history.knows(name):
            raise NotThere(name)
        if not self._history.is_done(beat):
            raise NoNumber(beat)


def shows_reason(flat, rows, thing):
    need_flat(flat)
    if not is_list(rows) or len(rows) > MOST_BEATS:
        raise NoIns(rows)
    record = Record(flat)
    for ins in rows:
        record.do_beat(need_ins(flat, ins))
    return is_reason(record, thing)


def for_whom(code, at):
    if not isinstance(code, Code):
        raise NoCode(code)
    if not is_whole(at, 0, len(code) - 1):
        raise NotThere(at)
    return code.stands()[at]


def bits_at(net, wire):
    _need_wire(net, wire)
    return net.standing().of_wire(wire)


def leads(net, wire):
    _need_wire(net, wire)
    return net.standing().led_to(wire)


def _need_wire(net, wire):
    need_net(net)
    if not is_whole(wire, 0, len(net) - 1):
        raise NotThere(wire)


def _things_of(flat):
    """A dict of True for all flat names and items of a flat list."""
    return {row[0]: True for row in [*flat.ins(), *flat.rows(), *flat.cells()]}
