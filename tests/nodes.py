"""Short words for terms, lets and nodes, and a few nodes that many tests call."""

from beatflows.programs import Program


def n(name):
    return ("name", name)


def last(name):
    return ("last", name)


def lit(kind, worth):
    return ("lit", kind, worth)


def let(names, right):
    return ("let", tuple(names.split()), right)


def state(name, lets, strong=(), weak=()):
    return (name, tuple(lets), tuple(strong), tuple(weak))


def block(*states):
    return ("states", tuple(states))


def ins(*flows):
    """Ins of tuples (name, kind) or (name, kind, clock)."""
    return tuple((*flow, *((), )[len(flow) - 2:]) for flow in flows)


def flows(*given):
    """Outs or inner flows of tuples (name, kind), (name, kind, clock) or (name, kind, clock, first)."""
    return tuple((*flow, *((), None)[len(flow) - 2:]) for flow in given)


def node(name, some_ins, outs, inner, *lets):
    return (name, ins(*some_ins), flows(*outs), flows(*inner), tuple(lets))


def program(*nodes, main=None):
    return Program(list(nodes), main=main)


# Tells twice its in.
TWICE = node("twice", [("a", 4)], [("b", 4)], [], let("b", ("add", n("a"), n("a"))))

# Adds its ins.
PLUS = node("plus", [("a", 4), ("b", 4)], [("c", 4)], [], let("c", ("add", n("a"), n("b"))))

# Adds up what it is handed since its begin.
SUM = node("sum", [("a", 4)], [("s", 4, (), 0)], [], let("s", ("add", last("s"), n("a"))))

# Tells its ins crosswise: each out hangs on one of them alone.
CROSS = node("cross", [("a", 4), ("b", 4)], [("p", 4), ("q", 4)], [], let("p", n("b")), let("q", n("a")))
