"""Whether two programs have the same ins and outs."""

from beatflows.errors import Unfit


def need_same_face(one, other):
    """Refuse with Unfit where the main node of the other hasn't the same ins and outs, but for firsts."""
    near = one.node(one.main())
    far = other.node(other.main())
    for word, at in (("ins", 1), ("outs", 2)):
        found = _first_unlike([flow[:3] for flow in near[at]], [flow[:3] for flow in far[at]])
        if found is not None:
            raise Unfit(other.main(), -1, word, found)


def _first_unlike(flows, others):
    """The name of the first of the others that isn't as the one at its place, else of the next one, or None."""
    for at, flow in enumerate(others):
        if at >= len(flows) or flow != flows[at]:
            return flow[0]
    return flows[len(others)][0] if len(flows) > len(others) else None
