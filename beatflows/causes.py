"""What hangs on what within a beat, and rings of flows that need one another."""

from beatflows.errors import NotThere
from beatflows.kinds import is_list
from beatflows.programs import need_program
from beatflows.terms import blocks_of, flows_of, is_call, lets_of, names_in, terms_within


def needs(program, node):
    need_node_of(program, node)
    return all_needs(program)[node]


def hangs(program, node):
    need_node_of(program, node)
    asked = all_needs(program)[node]
    ins = [flow[0] for flow in program.node(node)[1]]
    told = {}
    for flow in program.node(node)[2]:
        near = reached_from(flow[0], asked)
        told[flow[0]] = [name for name in ins if name in near]
    return told


def ring_of(program):
    need_program(program)
    asked = all_needs(program)
    for node in asked:
        ring = _least_ring(asked[node])
        if ring is not None:
            return node, ring
    return None


def shows_ring(program, thing):
    need_program(program)
    if not isinstance(thing, tuple) or len(thing) != 2:
        return False
    node, ring = thing
    if not isinstance(node, str) or not is_list(ring) or len(ring) == 0:
        return False
    asked = all_needs(program).get(node, {})
    if not all([isinstance(name, str) and name in asked for name in ring]):
        return False
    if len({name for name in ring}) != len(ring):
        return False
    return all([name in asked[ring[at - 1]] for at, name in enumerate(ring)])


def need_node_of(program, node):
    """Refuse what is no program, and what is no name of one of its nodes."""
    need_program(program)
    if not isinstance(node, str) or node not in [one[0] for one in program.nodes()]:
        raise NotThere(node)


def all_needs(program):
    """Of each node, by its name, what is told of it by `needs`."""
    told = {}
    # Of each node ahead, out by out, the numbers of the ins on which it hangs.
    hanging = {}
    for node in program.nodes():
        told[node[0]] = _needs_in(node, hanging)
        hanging[node[0]] = hanging_ins(node, told[node[0]])
    return told


def hanging_ins(node, asked):
    """Of each out of a node, in order, the numbers of the ins on which it hangs, asked being its needs."""
    told = []
    for flow in node[2]:
        near = reached_from(flow[0], asked)
        told.append([at for at, one in enumerate(node[1]) if one[0] in near])
    return told


def reached_from(name, asked):
    """A dict of True for all to which chains of needs lead from a flow, itself too."""
    told = {name: True}
    waiting = [name]
    while waiting:
        last = waiting.pop()
        for other in asked.get(last, []):
            if other not in told:
                told[other] = True
                waiting.append(other)
    return told


def _needs_in(node, hanging):
    flows = flows_of(node)
    gathered = {flow[0]: [condition[0] for condition in flow[2]] for flow in node[2] + node[3]}
    strong = [_names_in_strong(states) for states in blocks_of(node)]
    for _, block, _, names, right in lets_of(node):
        for at, name in enumerate(names):
            gathered[name].extend(_names_for(right, at, hanging))
            if block >= 0:
                gathered[name].extend(strong[block])
    return {name: [flow for flow in flows if flow in gathered[name]] for name in gathered}


def _names_in_strong(states):
    names = []
    for state in states:
        for condition, _, _ in state[2]:
            names.extend(names_in(condition))
    return names


def _names_for(right, at, hanging):
    """The names that a let's name of this place needs by its right side."""
    if not is_call(right):
        return names_in(right)
    names = [] if right[-1] is None else [right[-1]]
    terms = terms_within(right)
    for number in hanging[right[1]][at]:
        # The one row of `pairs` goes to both ins.
        term = terms[0] if right[0] == "pairs" else terms[number]
        names.extend(names_in(term))
    return names


def _least_ring(asked):
    best = None
    for start in sorted(asked):
        ring = _least_ring_from(start, asked)
        if ring is not None and (best is None or len(ring) < len(best)):
            best = ring
    return best


def _least_ring_from(start, asked):
    """The least of the shortest rings whose least name is this one, None where there is none."""
    far = _far_from(start, asked)
    ways = [far[name] for name in asked[start] if name in far]
    if not ways:
        return None
    ring = [start]
    for left in reversed(range(1, min(ways) + 1)):
        ring.append(min([name for name in asked[ring[-1]] if far.get(name) == left]))
    return ring


def _far_from(start, asked):
    """Of each flow that isn't less than the start, and from which needs lead to it, over how many of them."""
    far = {start: 0}
    edge = [start]
    while edge:
        behind = []
        for name in asked:
            if name > start and name not in far and any([other in asked[name] for other in edge]):
                behind.append(name)
        for name in behind:
            far[name] = far[edge[0]] + 1
        edge = behind
    return far
