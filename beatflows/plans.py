"""Nodes of good programs made ready, for whoever runs them and whoever opens them up."""

from beatflows.causes import all_needs, hanging_ins, reached_from
from beatflows.fitting import kind_by_parts
from beatflows.kinds import is_width
from beatflows.terms import blocks_of, flows_of, is_call, lasts_in, lets_of, terms_within


class Part:
    """A term within a let or a condition: its kind, its own parts, and, of a `first`, its number."""

    def __init__(self, term, kind, number, parts):
        self.term = term
        self.word = term[0]
        self.kind = kind
        self.number = number
        self.parts = parts


class Let:
    """A let: where it stands, its names, its terms as parts, and how many instances its right side calls."""

    def __init__(self, told, flows):
        self.number, self.block, self.state, self.names, self.right = told
        self.calls = is_call(self.right)
        terms = terms_within(self.right) if self.calls else [self.right]
        self.parts, self.firsts = prepared(terms, flows, 0)
        self.instances = _instances_called(self.right, self.parts)


class Way:
    """A way from a state to a goal, both by their numbers, and the condition under which it is taken."""

    def __init__(self, state, strong, condition, goal, anew):
        self.state = state
        self.strong = strong
        self.condition = condition
        self.goal = goal
        self.anew = anew


class Block:
    """A block: how many states it has, all their ways, in order, and how many firsts are in the conditions."""

    def __init__(self, states, flows):
        self.states = len(states)
        self.ways = []
        self.firsts = 0
        goals = [state[0] for state in states]
        for number, state in enumerate(states):
            for at, way in enumerate(state[2] + state[3]):
                parts, self.firsts = prepared([way[0]], flows, self.firsts)
                strong = at < len(state[2])
                self.ways.append(Way(number, strong, parts[0], goals.index(way[1]), way[2]))


class Plan:
    """A node made ready.

    `order` holds its outs and inner flows, each behind all that it needs; `chains`, of each out, those of them
    that it needs, itself too; `hanging`, of each out, the numbers of the ins on which it hangs; `told_by`, of
    each flow that is no in, the lets that tell it, state by state where it is one of a block.
    """

    def __init__(self, node, asked):
        self.called = node[0]
        self.flows = flows_of(node)
        self.in_names = [flow[0] for flow in node[1]]
        self.out_names = [flow[0] for flow in node[2]]
        self.lets = [Let(told, self.flows) for told in lets_of(node)]
        self.blocks = [Block(states, self.flows) for states in blocks_of(node)]
        self.order = in_order(asked)
        self.hanging = hanging_ins(node, asked)
        self.chains = []
        for out in self.out_names:
            near = reached_from(out, asked)
            self.chains.append([name for name in self.order if name in near])
        self.told_by = {name: [let for let in self.lets if name in let.names] for name in asked}
        self.lasts = _lasts_of(node, self.flows)


def plans_of(program):
    """Of each node of a good program, by its name, the plan."""
    asked = all_needs(program)
    return {node[0]: Plan(node, asked[node[0]]) for node in program.nodes()}


def prepared(terms, flows, number):
    """The terms as parts, the firsts numbered from this number on, and the number behind them."""
    told = []
    for term in terms:
        own = number
        # A first is numbered ahead of those within it.
        behind = number + 1 if term[0] == "first" else number
        parts, number = prepared(terms_within(term), flows, behind)
        kind = kind_by_parts(term, [part.kind for part in parts], flows)
        told.append(Part(term, kind, own, parts))
    return told, number


def worths_of_kind(kind):
    """How many worths a worth of a kind has, and of which width."""
    return (1, kind) if is_width(kind) else kind


def _instances_called(right, parts):
    word = right[0]
    if word == "call":
        return 1
    if word == "map":
        return parts[0].kind[0]
    if word == "fold":
        return parts[1].kind[0]
    if word == "pairs":
        return parts[0].kind[0] - 1
    return 0


def in_order(asked):
    """The keys of a dict to lists of what each needs, each behind all of those that it needs; none in a ring."""
    placed = {}
    waiting = list(asked)
    while waiting:
        for name in waiting:
            if all([other in placed or other not in asked for other in asked[name]]):
                placed[name] = True
        waiting = [name for name in waiting if name not in placed]
    return list(placed)


def _lasts_of(node, flows):
    names = []
    for let in lets_of(node):
        names.extend(lasts_in(let[4]))
    for states in blocks_of(node):
        for state in states:
            for way in state[2] + state[3]:
                names.extend(lasts_in(way[0]))
    return [name for name in flows if name in names]
