"""First worths: whether one may lack where it is asked for, and which programs are good."""

from beatflows.causes import need_node_of, ring_of
from beatflows.errors import Bare, Ringed
from beatflows.programs import need_program
from beatflows.terms import blocks_of, flows_of, is_call, lets_of, parts_of, terms_within


def sets(program, node):
    need_node_of(program, node)
    _need_no_ring(program)
    return _sets_in(program.node(node))


def bare_of(program):
    _need_no_ring(program)
    for node in program.nodes():
        found = _bare_in(node)
        if found is not None:
            return found
    return None


def need_good(program):
    need_program(program)
    if program.made("good"):
        return
    bare = bare_of(program)
    if bare is not None:
        where, at, found = bare
        raise Bare(where, at, found)
    program.hold("good", True)


def _need_no_ring(program):
    found = ring_of(program)
    if found is not None:
        where, ring = found
        raise Ringed(where, ring)


def _sets_in(node):
    flows = flows_of(node)
    lets = lets_of(node)
    levels = {name: 0 for name in flows}
    # What is told only ever rises with what is read, so the least that fits is reached from below.
    told = None
    while told != levels:
        told = {name: levels[name] for name in levels}
        for _, block, _, names, right in lets:
            level = 0 if is_call(right) else _level_of(right, levels, flows)
            for name in names:
                levels[name] = max(levels[name], 2 if block >= 0 and level > 0 else level)
    return levels


def _level_of(term, levels, flows):
    word = term[0]
    if word == "name":
        return levels[term[1]]
    if word == "last":
        return _level_of_last(term[1], levels, flows)
    parts = [_level_of(part, levels, flows) for part in terms_within(term)]
    if word == "first":
        return 2 if parts[1] == 2 else min(1, parts[0])
    if word == "merge":
        return 2 if max(parts) > 0 else 0
    return max(parts, default=0)


def _level_of_last(name, levels, flows):
    if levels[name] > 0:
        return 2
    return 1 if flows[name][2] is None else 0


def _bare_in(node):
    levels = _sets_in(node)
    flows = flows_of(node)
    strict = _always_asked(node)
    for number, _, _, names, right in lets_of(node):
        lacking = [name for name in names if levels[name] > (0 if name in strict else 1)]
        if lacking:
            return node[0], number, lacking[0]
        if is_call(right) and any([_level_of(term, levels, flows) > 0 for term in terms_within(right)]):
            return node[0], number, names[0]
    for states in blocks_of(node):
        for name, _, strong, weak in states:
            if any([_level_of(way[0], levels, flows) > 0 for way in strong + weak]):
                return node[0], -1, name
    return None


def _always_asked(node):
    """A dict of True for the flows that have to have a worth at each of their beats."""
    names = [flow[0] for flow in node[2]]
    for flow in node[1] + node[2] + node[3]:
        names.extend([condition[0] for condition in flow[2]])
    for _, block, _, told, right in lets_of(node):
        if block >= 0:
            names.extend(told)
        if is_call(right) and right[-1] is not None:
            names.append(right[-1])
        for part in parts_of(right):
            if part[0] == "when":
                names.append(part[2])
            elif part[0] == "merge":
                names.append(part[1])
    return {name: True for name in names}
