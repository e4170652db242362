"""Nodes that stand in for others, of which the face alone is known: to judge whom calls them by."""

from beatflows.kinds import is_width


def stand_in(name, face):
    """A node of these ins and outs, each of which hangs on just the ins told; what else it does is nothing."""
    ins, outs, hanging = face
    kinds = {flow[0]: flow[1] for flow in ins}
    lets = [("let", (out[0],), _term_that_hangs(out[1], hanging[out[0]], kinds)) for out in outs]
    return name, ins, outs, (), tuple(lets)


def _term_that_hangs(kind, names, kinds):
    """A term of the kind in which just these names stand."""
    truth = ("lit", 1, 0)
    for name in names:
        truth = ("or", truth, _truth_of(("name", name), kinds[name]))
    nought = ("lit", kind, 0 if is_width(kind) else (0,) * kind[0])
    return "pick", truth, nought, nought


def _truth_of(term, kind):
    return ("bit", 0, term) if is_width(kind) else ("bit", 0, ("at", 0, term))
