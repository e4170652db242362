"""Calls and loops, judged where they stand: what they call, what they hand in, and what comes."""

from beatflows.errors import Unfit
from beatflows.fitting import clock_of, common_clock, fit_together, kind_of
from beatflows.kinds import is_width
from beatflows.terms import terms_within


def judged_call(right, names, spot, ahead):
    """The kinds and the clock that come of a call or a loop, ahead being the nodes that may be called, by names."""
    if right[1] not in ahead:
        raise Unfit(spot.where, spot.at, "unknown", right[1])
    _look_at_every(right[-1], spot)
    kinds, clocks = _judged_terms(terms_within(right), spot)
    node = ahead[right[1]]
    if not _are_as_many(right, names, node):
        raise Unfit(spot.where, spot.at, "many", right[1])
    told = _kinds_told(right, kinds, node, spot)
    if not all([flow[2] == () for flow in node[1] + node[2]]):
        raise Unfit(spot.where, spot.at, "clock", right[1])
    if right[-1] is not None:
        clocks.append(spot.flows[right[-1]][1])
    if spot.bound:
        clocks.append(())
    if not fit_together(clocks):
        raise Unfit(spot.where, spot.at, "clock", right)
    return told, common_clock(clocks)


def _look_at_every(every, spot):
    if every is None:
        return
    if every not in spot.flows:
        raise Unfit(spot.where, spot.at, "unknown", every)
    if spot.flows[every][0] != 1:
        raise Unfit(spot.where, spot.at, "kind", every)


def _judged_terms(terms, spot):
    kinds = []
    clocks = []
    for term in terms:
        kinds.append(kind_of(term, spot))
        clocks.append(clock_of(term, spot))
    return kinds, clocks


def _are_as_many(right, names, node):
    word = right[0]
    wanted = 2 if word == "pairs" else len(terms_within(right))
    if len(node[1]) != wanted or len(node[2]) != len(names):
        return False
    return word in ("call", "map") or len(node[2]) == 1


def _kinds_told(right, kinds, node, spot):
    """The kinds of what a call or a loop tells, those of what is handed in being these."""
    word = right[0]
    ins = [flow[1] for flow in node[1]]
    outs = [flow[1] for flow in node[2]]
    for at, term in enumerate(terms_within(right)):
        if not _fits_in(word, at, kinds, ins):
            raise Unfit(spot.where, spot.at, "kind", term)
    if word == "call":
        return outs
    if not all([is_width(out) for out in outs]) or (word == "fold" and outs[0] != kinds[0]):
        raise Unfit(spot.where, spot.at, "kind", right[1])
    if word == "fold":
        return outs
    many = kinds[0][0] if word == "map" else kinds[0][0] - 1
    return [(many, out) for out in outs]


def _fits_in(word, at, kinds, ins):
    """Tell whether the term of this place may be handed in, those ahead of it being looked at."""
    if word == "call":
        return kinds[at] == ins[at]
    if word == "fold" and at == 0:
        return is_width(kinds[0]) and kinds[0] == ins[0]
    if word == "pairs":
        return _is_row_of(kinds[0], ins[0]) and kinds[0][0] >= 3 and ins[1] == ins[0]
    first = kinds[1] if word == "fold" else kinds[0]
    return _is_row_of(kinds[at], ins[at]) and kinds[at][0] == first[0]


def _is_row_of(kind, width):
    return not is_width(kind) and kind[1] == width
