"""The kinds and clocks of terms, judged where they stand: each part ahead of what it is a part of."""

from beatflows.errors import Unfit
from beatflows.kinds import is_width, reckoned
from beatflows.terms import name_beside, terms_within

# Words of two parts that compare, so that a truth comes.
COMPARING = ("less", "same")


class Spot:
    """Where a term stands: its node's name and flows, a let's number or -1, and whether just the clock () will do."""

    def __init__(self, where, flows, at, bound):
        self.where = where
        self.flows = flows
        self.at = at
        self.bound = bound


def kind_of(term, spot):
    """The kind that comes of a term; refused is with Unfit where its parts don't fit."""
    kinds = [kind_of(part, spot) for part in terms_within(term)]
    name = name_beside(term)
    if name is not None and name not in spot.flows:
        raise Unfit(spot.where, spot.at, "unknown", name)
    kind = kind_by_parts(term, kinds, spot.flows)
    if kind is None:
        raise Unfit(spot.where, spot.at, "kind", term)
    return kind


def clock_of(term, spot):
    """The clock that comes of a term whose kinds fit, None where it may have any; refused is with Unfit."""
    clocks = [clock_of(part, spot) for part in terms_within(term)]
    name = name_beside(term)
    own = None if name is None else spot.flows[name][1]
    if spot.bound and not _is_plain(term, own):
        raise Unfit(spot.where, spot.at, "clock", term)
    if not _clocks_fit(term, clocks, own):
        raise Unfit(spot.where, spot.at, "clock", term)
    if term[0] == "when":
        return own + ((term[2], term[3]),)
    if own is not None:
        return own
    return common_clock(clocks)


def fit_together(clocks):
    """Tell whether clocks are alike, but for those that may be any (None)."""
    known = [clock for clock in clocks if clock is not None]
    return all([clock == known[0] for clock in known])


def common_clock(clocks):
    """The one clock of those that fit together, None where all may be any."""
    for clock in clocks:
        if clock is not None:
            return clock
    return None


def kind_by_parts(term, kinds, flows):
    """The kind that comes of a term, by those of its parts; None where they don't fit."""
    word = term[0]
    if word == "lit":
        return term[1]
    if word == "name" or word == "last":
        return flows[term[1]][0]
    if word == "first":
        return kinds[0] if kinds[0] == kinds[1] else None
    if word == "when":
        return kinds[0] if flows[term[2]][0] == 1 else None
    if word == "merge":
        return kinds[0] if flows[term[1]][0] == 1 and kinds[0] == kinds[1] else None
    if word == "row":
        return (len(kinds), kinds[0]) if _are_alike_widths(kinds) else None
    if word == "at":
        return kinds[0][1] if not is_width(kinds[0]) and kinds[0][0] > term[1] else None
    return kind_by_word(term, kinds)


def kind_by_word(term, kinds):
    """The kind that comes of a pick, or of a word of reckoning, by those of its parts; None where they don't fit."""
    word = term[0]
    if word == "pick":
        return kinds[1] if kinds[0] == 1 and kinds[1] == kinds[2] else None
    if not _are_alike_widths(kinds):
        return None
    if word == "wide":
        return term[1]
    if word == "bit":
        return 1 if kinds[0] > term[1] else None
    return 1 if word in COMPARING else kinds[0]


def worth_by_word(term, kinds, worths):
    """The worth that comes of a pick, or of a word of reckoning, by the kinds and the worths of its parts."""
    word = term[0]
    if word == "pick":
        return worths[1] if worths[0] == 1 else worths[2]
    to = term[1] if word == "wide" else 1
    at = term[1] if word == "bit" else 0
    return reckoned(word, kinds[0], worths, to=to, at=at)


def _are_alike_widths(kinds):
    return is_width(kinds[0]) and all([kind == kinds[0] for kind in kinds])


def _is_plain(term, own):
    """Tell whether a term of these clocks may stand in a state, or in a condition."""
    return term[0] not in ("when", "merge") and (own is None or own == ())


def _clocks_fit(term, clocks, own):
    if term[0] == "when":
        return len(own) <= 2 and fit_together([clocks[0], own])
    if term[0] == "merge":
        name = term[1]
        one = fit_together([clocks[0], own + ((name, 1),)])
        return one and fit_together([clocks[1], own + ((name, 0),)])
    return fit_together(clocks)
