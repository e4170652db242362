"""Nodes, judged: whether their names, clocks, lets and blocks fit, and what their lets tell."""

from beatflows.calling import judged_call
from beatflows.errors import Unfit
from beatflows.fitting import Spot, clock_of, fit_together, kind_of
from beatflows.terms import blocks_of, flows_of, is_call, lets_of


def judged_node(node, ahead, main):
    """Of each let, by number, the kinds and the clock that come; refused is with Unfit.

    Ahead are the nodes that stand ahead of this one, by names, main is the main one's name.
    """
    _look_at_names(node, ahead)
    _look_at_clocks(node, main)
    flows = flows_of(node)
    lets = lets_of(node)
    told = []
    for number, let in enumerate(lets):
        spot = Spot(node[0], flows, number, let[1] >= 0)
        _look_at_let_names(let, lets[:number], _names_told(node), spot)
        told.append(_judged_let(let, spot, ahead))
        if let[1] >= 0 and (number + 1 == len(lets) or lets[number + 1][1] != let[1]):
            _look_at_block(blocks_of(node)[let[1]], Spot(node[0], flows, -1, True))
    _look_for_lacks(node, lets)
    return told


def _names_told(node):
    """The names that lets may tell: those of outs and inner flows."""
    return [flow[0] for flow in node[2] + node[3]]


def _look_at_names(node, ahead):
    if node[0] in ahead:
        raise Unfit(node[0], -1, "twice", node[0])
    seen = {}
    for flow in node[1] + node[2] + node[3]:
        if flow[0] in seen:
            raise Unfit(node[0], -1, "twice", flow[0])
        seen[flow[0]] = True


def _look_at_clocks(node, main):
    name, ins, outs, inner, _ = node
    faces = [*ins, *outs]
    for at, flow in enumerate([*ins, *outs, *inner]):
        if at < len(ins):
            read = list(ins[:at])
        elif at < len(faces):
            read = faces
        else:
            read = [*faces, *inner]
        good = _is_right_clock(flow[2], read)
        if not good or (at < len(faces) and name != main and flow[2] != ()):
            raise Unfit(name, -1, "clock", flow[0])


def _is_right_clock(clock, read):
    """Tell whether each condition names one of these flows, a width 1, whose clock is just the conditions ahead."""
    named = {flow[0]: (flow[1], flow[2]) for flow in read}
    return all([named.get(condition[0]) == (1, clock[:at]) for at, condition in enumerate(clock)])


def _look_at_let_names(let, ahead, told, spot):
    names = let[3]
    for name in names:
        if name not in told:
            raise Unfit(spot.where, spot.at, "unknown", name)
    for at, name in enumerate(names):
        if name in names[:at] or any([name in one[3] and not _are_unlike_states(let, one) for one in ahead]):
            raise Unfit(spot.where, spot.at, "twice", name)
    if len(names) > 1 and not is_call(let[4]):
        raise Unfit(spot.where, spot.at, "many", names[1])
    clock = () if spot.bound else spot.flows[names[0]][1]
    for name in names:
        if spot.flows[name][1] != clock:
            raise Unfit(spot.where, spot.at, "clock", name)


def _are_unlike_states(let, other):
    return let[1] >= 0 and let[1] == other[1] and let[2] != other[2]


def _judged_let(let, spot, ahead):
    names = let[3]
    right = let[4]
    if is_call(right):
        kinds, clock = judged_call(right, names, spot, ahead)
    else:
        kinds = [kind_of(right, spot)]
        clock = clock_of(right, spot)
    for name, kind in zip(names, kinds):
        if spot.flows[name][0] != kind:
            raise Unfit(spot.where, spot.at, "kind", name)
    if not fit_together([clock, spot.flows[names[0]][1]]):
        raise Unfit(spot.where, spot.at, "clock", names[0])
    return kinds, clock


def _look_at_block(states, spot):
    goals = [state[0] for state in states]
    for number, state in enumerate(states):
        if state[0] in goals[:number]:
            raise Unfit(spot.where, spot.at, "twice", state[0])
        for condition, goal, _ in state[2] + state[3]:
            kind = kind_of(condition, spot)
            clock_of(condition, spot)
            if kind != 1:
                raise Unfit(spot.where, spot.at, "kind", condition)
            if goal not in goals:
                raise Unfit(spot.where, spot.at, "unknown", goal)


def _look_for_lacks(node, lets):
    blocks = blocks_of(node)
    for name in _names_told(node):
        told = [let for let in lets if name in let[3]]
        if not told or (told[0][1] >= 0 and len(told) < len(blocks[told[0][1]])):
            raise Unfit(node[0], -1, "lacks", name)
