"""Runs: a good program read plainly, beat by beat."""

from beatflows.bounds import MOST_BEATS
from beatflows.errors import NoIns, NotThere, Over
from beatflows.firsts import need_good
from beatflows.kinds import is_list, is_worth
from beatflows.layout import layout_of
from beatflows.reading import Reading


class Run:
    """A run of a good program, beat by beat."""

    def __init__(self, program):
        need_good(program)
        self._program = program
        self._layout = layout_of(program)
        self._begins = self._layout.begins()
        self._memory = {item: self._begins[item] for item in self._begins}
        self._worths = {}
        self._beats = 0

    def beat(self, ins):
        if self._beats >= MOST_BEATS:
            raise Over(self._beats)
        plan = self._layout.plan_at(())
        if not _are_ins(ins, plan):
            raise NoIns(ins)
        reading = Reading(self._layout, self._begins, self._memory, ins)
        worths = reading.worths()
        self._memory = reading.memory()
        self._worths = worths
        self._beats += 1
        return {name: worths[(), name] for name in plan.out_names if ((), name) in worths}

    def kept(self):
        return {item: self._memory[item] for item in self._memory}

    def beats(self):
        return self._beats

    def worth(self, place, name):
        if not self._layout.has(place) or not isinstance(name, str) or name not in self._layout.plan_at(place).flows:
            raise NotThere((place, name))
        return self._worths.get((place, name))

    def places(self):
        return self._layout.all_places()

    def node_at(self, place):
        if not self._layout.has(place):
            raise NotThere(place)
        return self._layout.plan_at(place).called

    def twin(self):
        other = self.fresh()
        other.lay(self)
        return other

    def fresh(self):
        return Run(self._program)

    def lay(self, other):
        self._memory = other.kept()
        self._worths = {key: other._worths[key] for key in other._worths}
        self._beats = other._beats

    def remembers(self, kept, beats):
        self._memory = {item: kept[item] for item in self._memory}
        self._worths = {}
        self._beats = beats


def run_all(program, rows):
    run = Run(program)
    if not is_list(rows) or len(rows) > MOST_BEATS:
        raise NoIns(rows)
    return [run.beat(ins) for ins in rows]


def _are_ins(thing, plan):
    """Tell whether it is a dict of the worths of just those ins whose clocks say so."""
    if not isinstance(thing, dict):
        return False
    wanted = []
    for name in plan.in_names:
        kind, clock, _ = plan.flows[name]
        if all([thing.get(other) == truth for other, truth in clock]):
            if name not in thing or not is_worth(thing[name], kind):
                return False
            wanted.append(name)
    return len(wanted) == len(thing)
