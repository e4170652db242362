"""Good programs of all forms of terms, made by chance from a seed, and ins for them."""

import random

from beatflows.errors import FlowError
from beatflows.firsts import need_good
from beatflows.programs import Program

LETTERS = "abcdefghijklmnopqrstuvwxyz"
WIDTHS = (1, 1, 1, 2, 3, 8)


class NodeMaker:
    """Makes one node: first its flows and lets without terms, then the terms."""

    def __init__(self, chance, name, ahead, main):
        self.chance = chance
        self.name = name
        self.ahead = ahead
        self.main = main
        self.flows = {}
        self.ins = []
        self.told = []
        self.known = []
        self.items = []

    def new_name(self):
        return LETTERS[len(self.flows) % 26] + ("x" * (len(self.flows) // 26))

    def add_flow(self, kind, clock, first=None):
        name = self.new_name()
        self.flows[name] = (kind, clock, first)
        return name

    def some_kind(self):
        if self.chance.random() < 0.25:
            return (self.chance.randint(2, 4), self.chance.choice((1, 2, 3)))
        return self.chance.choice(WIDTHS)

    def some_worth(self, kind):
        if isinstance(kind, tuple):
            return tuple(self.some_worth(kind[1]) for _ in range(kind[0]))
        return self.chance.choice((0, 2 ** kind - 1, self.chance.randrange(2 ** kind)))

    def some_first(self, kind):
        return self.some_worth(kind) if self.chance.random() < 0.8 else None

    def some_clock(self, names):
        clock = ()
        for _ in range(3):
            fitting = [x for x in names if self.flows[x][:2] == (1, clock)]
            if not fitting or self.chance.random() < 0.6:
                return clock
            clock += ((self.chance.choice(fitting), self.chance.randint(0, 1)),)
        return clock

    def make(self):
        if not self.main and self.chance.random() < 0.4:
            return self.make_small()
        for _ in range(self.chance.randint(1, 4) if self.main else self.chance.randint(0, 3)):
            clock = self.some_clock(list(self.flows)) if self.main else ()
            kind = 1 if self.chance.random() < 0.4 else self.some_kind()
            self.ins.append(self.add_flow(kind, clock))
        self.known = list(self.ins)
        skeletons = [self.some_item() for _ in range(self.chance.randint(1, 5))]
        # Terms name the ins and what is told ahead; lasts, and weak conditions, any flow.
        self.known = list(self.ins)
        for skeleton in skeletons:
            self.items.append(self.filled(skeleton))
        self.known = list(self.flows)
        self.items = [self.with_weak(item) for item in self.items]
        self.chance.shuffle(self.items)
        return self.node()

    def make_small(self):
        """A node of two ins and one out of the same width, as all loops may call it."""
        kind = self.chance.choice(WIDTHS)
        self.ins = [self.add_flow(kind, ()) for _ in range(2)]
        out = self.add_flow(kind, (), self.some_first(kind))
        self.known = list(self.ins)
        self.items.append(("let", (out,), self.term(kind, (), 3, False)))
        return self.node()

    def some_item(self):
        if self.chance.random() < 0.3:
            return self.some_block()
        clock = self.some_clock(self.known)
        call = self.some_call(clock)
        if call is None:
            names = (self.add_flow(self.some_kind() if self.chance.random() < 0.7 else 1, clock),)
            call = ("term",)
        else:
            names = tuple(self.add_flow(kind, clock) for kind in call[-1])
        for name in names:
            kind = self.flows[name][0]
            self.flows[name] = (kind, clock, self.some_first(kind))
        self.known.extend(names)
        return ("let", names, call, clock)

    def some_call(self, clock, wanted=None):
        """A call without its terms: (word, node, many, kinds of what is told), or None."""
        for _ in range(3):
            if not self.ahead or self.chance.random() < (0.55 if wanted is None else 0.75):
                continue
            node = self.chance.choice(self.ahead)
            ins = [flow[1] for flow in node[1]]
            outs = [flow[1] for flow in node[2]]
            plain = all(isinstance(kind, int) for kind in ins + outs)
            many = self.chance.randint(2, 4)
            told = [("call", node, 1, outs)]
            if plain and 1 <= len(ins) <= 4:
                told.append(("map", node, many, [(many, kind) for kind in outs]))
            if plain and len(outs) == 1 and 2 <= len(ins) <= 5 and ins[0] == outs[0]:
                told.append(("fold", node, many, outs))
            if plain and len(outs) == 1 and len(ins) == 2 and ins[0] == ins[1] and many > 2:
                told.append(("pairs", node, many, [(many - 1, outs[0])]))
            call = self.chance.choice(told)
            if wanted is None or call[-1] == wanted:
                return call
        return None

    def some_block(self):
        kinds = [self.some_kind() for _ in range(self.chance.randint(1, 2))]
        if self.ahead and self.chance.random() < 0.6:
            kinds = [flow[1] for flow in self.chance.choice(self.ahead)[2]][:3]
        names = tuple(self.add_flow(kind, (), self.some_first(kind)) for kind in kinds)
        self.known.extend(names)
        states = []
        for number in range(self.chance.randint(1, 4)):
            call = self.some_call((), kinds)
            if call is not None:
                states.append([(names, call)])
            else:
                states.append([((name,), ("term",)) for name in names])
        return ("states", names, states)

    def filled(self, skeleton):
        if skeleton[0] == "let":
            _, names, call, clock = skeleton
            right = self.right(call, [self.flows[name][0] for name in names], clock, False)
            self.known.extend(names)
            return ("let", names, right)
        _, names, states = skeleton
        goals = ["s" + LETTERS[number] for number in range(len(states))]
        told = []
        for number, lets in enumerate(states):
            strong = tuple(self.way(goals) for _ in range(self.chance.choice((0, 0, 1, 2))))
            filled = tuple(
                ("let", own, self.right(call, [self.flows[name][0] for name in own], (), True)) for own, call in lets
            )
            told.append((goals[number], filled, strong, ()))
        self.known.extend(names)
        return ("states", tuple(told))

    def with_weak(self, item):
        if item[0] == "let":
            return item
        goals = [state[0] for state in item[1]]
        return ("states", tuple(
            (name, lets, strong, tuple(self.way(goals) for _ in range(self.chance.choice((0, 1, 1, 2)))))
            for name, lets, strong, _ in item[1]
        ))

    def way(self, goals):
        return (self.term(1, (), 2, True), self.chance.choice(goals), self.chance.randint(0, 1))

    def right(self, call, kinds, clock, bound):
        if call[0] == "term":
            return self.term(kinds[0], clock, self.chance.randint(1, 4), bound)
        word, node, many, _ = call
        ins = [flow[1] for flow in node[1]]
        every = None
        fitting = [x for x in self.known if self.flows[x][:2] == (1, clock)]
        if fitting and self.chance.random() < 0.5:
            every = self.chance.choice(fitting)

        def args(wanted):
            return tuple(self.term(kind, clock, self.chance.randint(1, 3), bound) for kind in wanted)
        if word == "call":
            return (word, node[0], args(ins), every)
        if word == "map":
            return (word, node[0], args([(many, kind) for kind in ins]), every)
        if word == "fold":
            return (word, node[0], args(ins[:1])[0], args([(many, kind) for kind in ins[1:]]), every)
        return (word, node[0], args([(many, ins[0])])[0], every)

    def term(self, kind, clock, depth, bound):
        if depth <= 1 or self.chance.random() < 0.2:
            return self.leaf(kind, clock)
        forms = ["first", "pick", "leaf"]
        if isinstance(kind, tuple):
            forms += ["row", "row"]
        else:
            forms += ["not", "and", "or", "xor", "add", "sub", "wide", "at"]
            forms += ["less", "same", "bit"] * (kind == 1)
        if not bound:
            forms += ["when"] * 3 * bool(clock) + ["merge"] * 3
        return self.term_of(self.chance.choice(forms), kind, clock, depth, bound)

    def term_of(self, word, kind, clock, depth, bound):
        def inner(kind, clock=clock):
            return self.term(kind, clock, depth - 1, bound)
        if word in ("first", "and", "or", "xor", "add", "sub"):
            return (word, inner(kind), inner(kind))
        if word == "pick":
            return (word, inner(1), inner(kind), inner(kind))
        if word == "row":
            return (word, tuple(inner(kind[1]) for _ in range(kind[0])))
        if word == "not":
            return (word, inner(kind))
        if word == "wide":
            return (word, kind, inner(self.chance.choice(WIDTHS)))
        if word == "at":
            many = self.chance.randint(2, 4)
            return (word, self.chance.randrange(many), inner((many, kind)))
        if word in ("less", "same"):
            width = self.chance.choice(WIDTHS)
            return (word, inner(width), inner(width))
        if word == "bit":
            width = self.chance.choice(WIDTHS)
            return (word, self.chance.randrange(width), inner(width))
        if word == "when":
            name, truth = clock[-1]
            if name in self.known:
                return (word, inner(kind, clock[:-1]), name, truth)
        fitting = [x for x in self.known if self.flows[x][:2] == (1, clock)]
        if word == "merge" and fitting and len(clock) < 3:
            name = self.chance.choice(fitting)
            return (word, name, inner(kind, clock + ((name, 1),)), inner(kind, clock + ((name, 0),)))
        return self.leaf(kind, clock)

    def leaf(self, kind, clock):
        known = [x for x in self.known if self.flows[x][:2] == (kind, clock)]
        lasts = [x for x in self.flows if self.flows[x][:2] == (kind, clock)]
        draw = self.chance.random()
        if known and draw < 0.6:
            return ("name", self.chance.choice(known))
        if lasts and draw < 0.9:
            return ("last", self.chance.choice(lasts))
        return ("lit", kind, self.some_worth(kind))

    def node(self):
        told = [name for name in self.flows if name not in self.ins]
        outs = [name for name in told if self.flows[name][1] == () and self.chance.random() < 0.6][:2]
        if self.main:
            for name in told:
                clock = self.flows[name][1]
                if clock and all(x in self.ins or x in outs for x, _ in clock):
                    outs.append(name)
        if not outs:
            outs = [name for name in told if self.flows[name][1] == ()][:1]
        if not outs:
            raise LookupError("no out")
        inner = [name for name in told if name not in outs]
        self.chance.shuffle(inner)

        def full(names):
            return tuple((name, *self.flows[name]) for name in names)
        ins = tuple((name, *self.flows[name][:2]) for name in self.ins)
        return (self.name, ins, full(outs), full(inner), tuple(self.items))


def some_program(seed):
    """A good program made of this seed; others of the seed are thrown away until one is good."""
    chance = random.Random(seed)
    while True:
        nodes = []
        try:
            many = chance.randint(1, 4)
            for number in range(many):
                nodes.append(NodeMaker(chance, "n" + LETTERS[number], nodes, number == many - 1).make())
            program = Program(nodes)
            need_good(program)
            return program
        except (FlowError, LookupError):
            continue


def some_ins(program, chance):
    """Ins for a beat of a program: of any worths, or of just the least or the greatest ones."""
    how = chance.choice(("any", "any", "least", "greatest"))
    told = {}

    def worth(width):
        if how == "any":
            return chance.randrange(2 ** width)
        return 0 if how == "least" else 2 ** width - 1
    for name, kind, clock in program.node(program.main())[1]:
        if all(told.get(x) == truth for x, truth in clock):
            told[name] = tuple(worth(kind[1]) for _ in range(kind[0])) if isinstance(kind, tuple) else worth(kind)
    return told
