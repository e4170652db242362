"""Programs opened up to flat lists, and the ins of both, there and back."""

from beatflows.bounds import MOST_FLOWS
from beatflows.errors import NoIns, TooMany
from beatflows.firsts import need_good
from beatflows.flat_rows import is_flat_name
from beatflows.flat_terms import flat_clock, flow_name
from beatflows.flats import Flat
from beatflows.kinds import is_worth
from beatflows.layout import layout_of, worth_at
from beatflows.opening_rows import OpenedRows
from beatflows.plans import plans_of, worths_of_kind
from beatflows.programs import need_program


def opened(program):
    need_good(program)
    if program.made("flat") is None:
        program.hold("flat", _made_flat(program))
    return program.made("flat")


def flat_ins(program, ins):
    kinds = _kinds_of_ins(program)
    if not isinstance(ins, dict) or not all([name in kinds for name in ins]):
        raise NoIns(ins)
    if not all([is_worth(ins[name], kinds[name]) for name in ins]):
        raise NoIns(ins)
    told = {}
    for name in kinds:
        if name in ins:
            for at, flow in enumerate(_names_of(name, kinds[name])):
                told[flow] = worth_at(ins[name], at)
    return told


def plain_ins(program, ins):
    kinds = _kinds_of_ins(program)
    if not isinstance(ins, dict) or not all([is_flat_name(name) for name in ins]):
        raise NoIns(ins)
    told = {}
    many = 0
    for name in kinds:
        worths = [ins[flow] for flow in _names_of(name, kinds[name]) if flow in ins]
        many += len(worths)
        if worths:
            told[name] = tuple(worths) if isinstance(kinds[name], tuple) else worths[0]
    # A row of which some worths lack is no worth of its kind.
    if many != len(ins) or not all([is_worth(told[name], kinds[name]) for name in told]):
        raise NoIns(ins)
    return told


def _made_flat(program):
    # What is too much is counted, not opened up: calls within calls come to more than can be made.
    many = _counted(plans_of(program))[program.main()]
    if many > MOST_FLOWS:
        raise TooMany(many)
    layout = layout_of(program)
    rows = OpenedRows(layout)
    plan = layout.plan_at(())
    outs = []
    for name in plan.out_names:
        kind, clock, _ = plan.flows[name]
        outs.append((name, tuple(_names_of(name, kind)), flat_clock((), clock)))
    return Flat(_opened_ins(plan), rows.rows(), rows.cells(), outs)


def _kinds_of_ins(program):
    """Of the main node's ins, in order, the kinds."""
    need_program(program)
    return {name: kind for name, kind, _ in program.node(program.main())[1]}


def _names_of(name, kind):
    """The flat names of a main one's flow, worth by worth."""
    many, _ = worths_of_kind(kind)
    return [flow_name((), name, at) for at in range(many)]


def _opened_ins(plan):
    told = []
    for name in plan.in_names:
        kind, clock, _ = plan.flows[name]
        _, width = worths_of_kind(kind)
        told.extend([(flow, width, flat_clock((), clock)) for flow in _names_of(name, kind)])
    return told


def _counted(plans):
    """Of each node how many flat flows an instance of it comes to, with all beneath it."""
    told = {}
    for name in plans:
        plan = plans[name]
        beneath = [let.instances * told[let.right[1]] for let in plan.lets if let.calls]
        told[name] = _flows_of_one(plan) + sum(beneath)
    return told


def _flows_of_one(plan):
    """How many flat flows one instance has: its flows, those by lets of states, the truths of it and its blocks."""
    many = {name: worths_of_kind(plan.flows[name][0])[0] for name in plan.flows}
    told = 2 + sum([many[name] for name in many])
    for let in plan.lets:
        if let.block >= 0:
            told += sum([many[name] for name in let.names])
    for block in plan.blocks:
        told += 2 * block.states + len(block.ways) + 3
    return told
