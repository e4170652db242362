"""What stands for flows, clocks, terms and ways of an instance in a program opened up."""


def flow_name(place, name, at, let=-1):
    """The flat name of a flow's worth of this place, by a let of a state, or, with -1, of the flow itself."""
    return ("flow", place, name, at, let)


def turn_clock(place):
    """The flat clock of the turns of an instance: the main one has one at each beat."""
    return () if place == () else ((("turn", place), 1),)


def flat_clock(place, clock):
    return turn_clock(place) + tuple([(flow_name(place, name, 0), truth) for name, truth in clock])


def let_clock(place, plan, let):
    """The flat clock of the turns at which a let is worked out."""
    if let.block >= 0:
        return ((("runs", place, let.block, let.state), 1),)
    return flat_clock(place, plan.flows[let.names[0]][1])


def flat_term(part, at, place, head):
    """The flat term of the worth number `at` of a part, head being what the items of its firsts begin with."""
    word = part.word
    if word == "lit":
        worth = part.term[2]
        return ("lit", part.kind, worth) if at is None else ("lit", part.kind[1], worth[at])
    if word == "name":
        return ("flat", flow_name(place, part.term[1], _number(at)))
    if word == "last":
        return ("cell", ("last", place, part.term[1], _number(at)))
    if word == "row":
        return flat_term(part.parts[at], None, place, head)
    if word == "at":
        return flat_term(part.parts[0], part.term[1], place, head)
    if word == "when":
        return flat_term(part.parts[0], at, place, head)
    if word == "pick":
        truth = flat_term(part.parts[0], None, place, head)
        return ("pick", truth, *_sides(part.parts[1:], at, place, head))
    if word == "merge":
        return ("pick", ("flat", flow_name(place, part.term[1], 0)), *_sides(part.parts, at, place, head))
    if word == "first":
        return ("pick", ("cell", head + (part.number,)), *_sides(part.parts, at, place, head))
    # A number that stands ahead of the parts, of `wide` and `bit`, stays there.
    beside = part.term[1:len(part.term) - len(part.parts)]
    return (word, *beside, *_sides(part.parts, None, place, head))


def conditions_of_firsts(part, ahead, place):
    """Of each first in a part its number, and the conditions, behind those ahead, under which it is worked out."""
    told = [(part.number, ahead)] if part.word == "first" else []
    for at, one in enumerate(part.parts):
        side = ahead
        if part.word == "merge":
            side = ahead + ((flow_name(place, part.term[1], 0), 1 - at),)
        told.extend(conditions_of_firsts(one, side, place))
    return told


def chosen(ways, state, width, rest):
    """A term for what the first way taken of a state brings, else for the rest.

    Ways are tuples (state, flat name, worth), in order; the term `state` tells of which state they are asked for.
    """
    term = rest
    for number in sorted({way[0] for way in ways}):
        side = rest
        for _, name, worth in reversed([way for way in ways if way[0] == number]):
            side = ("pick", ("flat", name), ("lit", width, worth), side)
        term = ("pick", ("same", state, ("lit", 2, number)), side, term)
    return term


def read_in(term, begins):
    """The flat names that a flat term reads, those that tell whether its cells begin too, by the dict `begins`."""
    if term[0] == "flat":
        return [term[1]]
    if term[0] == "cell":
        return [] if begins[term[1]] is None else [begins[term[1]]]
    names = []
    for part in term[1:]:
        if isinstance(part, tuple):
            names.extend(read_in(part, begins))
    return names


def _sides(parts, at, place, head):
    return [flat_term(part, at, place, head) for part in parts]


def _number(at):
    return 0 if at is None else at
