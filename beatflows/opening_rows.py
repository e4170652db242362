"""The rows and the cells of a program opened up, instance by instance."""

from beatflows.flat_terms import chosen, conditions_of_firsts, flat_clock, flat_term, flow_name, let_clock
from beatflows.flat_terms import read_in, turn_clock
from beatflows.layout import beneath, items_at
from beatflows.plans import in_order, worths_of_kind

NO = ("lit", 1, 0)
YES = ("lit", 1, 1)


class OpenedRows:
    """The rows and cells of all instances of a layout."""

    def __init__(self, layout):
        self._layout = layout
        self._rows = {}
        self._cells = {}
        self._row(("fresh", ()), 1, (), NO)
        self._row(("turn", ()), 1, (), YES)
        for place in layout.all_places():
            plan = layout.plan_at(place)
            for let in plan.lets:
                self._open_let(place, plan, let)
            for name in plan.told_by:
                self._open_flow(place, plan, name)
            for number, block in enumerate(plan.blocks):
                self._open_block(place, number, block)
            self._open_cells(place, plan)

    def rows(self):
        """All rows, each behind those that it reads."""
        begins = {item: self._cells[item][5] for item in self._cells}
        read = {}
        for name in self._rows:
            _, _, clock, term = self._rows[name]
            read[name] = [condition[0] for condition in clock] + read_in(term, begins)
        return [self._rows[name] for name in in_order(read)]

    def cells(self):
        """All cells, by rising items."""
        return [self._cells[item] for item in sorted(self._cells)]

    def _row(self, name, width, clock, term):
        self._rows[name] = (name, width, clock, term)

    def _open_let(self, place, plan, let):
        if let.block >= 0:
            clock = let_clock(place, plan, let)
            for at, name in enumerate(let.names):
                self._open_worths(place, plan, name, let.number, clock, self._terms(place, plan, let, at))
        for at, child in enumerate(beneath(place, let)):
            self._open_begin(place, plan, let, child)
            callee = self._layout.callee(let)
            for number, name in enumerate(callee.in_names):
                terms = self._terms_of_in(place, let, at, number, callee)
                self._open_worths(child, callee, name, -1, turn_clock(child), terms)

    def _open_flow(self, place, plan, name):
        lets = plan.told_by[name]
        if lets[0].block >= 0:
            terms = self._terms_of_block(place, plan, name, lets)
        else:
            terms = self._terms(place, plan, lets[0], lets[0].names.index(name))
        self._open_worths(place, plan, name, -1, flat_clock(place, plan.flows[name][1]), terms)

    def _open_worths(self, place, plan, name, let, clock, terms):
        _, width = worths_of_kind(plan.flows[name][0])
        for at, term in enumerate(terms):
            self._row(flow_name(place, name, at, let), width, clock, term)

    def _terms_of_block(self, place, plan, name, lets):
        """What a block's flow has: only the let of the state that runs isn't silent, all others are read as 0."""
        many, _ = worths_of_kind(plan.flows[name][0])
        told = []
        for at in range(many):
            term = ("flat", flow_name(place, name, at, lets[-1].number))
            for let in reversed(lets[:-1]):
                term = ("or", ("flat", flow_name(place, name, at, let.number)), term)
            told.append(term)
        return told

    def _terms(self, place, plan, let, out):
        """The terms, worth by worth, of what a let tells for its name of this number."""
        many, _ = worths_of_kind(plan.flows[let.names[out]][0])
        if not let.calls:
            return _terms_of_part(let.parts[0], place, ("first", place, let.number))
        name = self._layout.callee(let).out_names[out]
        children = beneath(place, let)
        if let.right[0] in ("map", "pairs"):
            return [("flat", flow_name(child, name, 0)) for child in children]
        return [("flat", flow_name(children[-1], name, at)) for at in range(many)]

    def _terms_of_in(self, place, let, at, number, callee):
        """The terms, worth by worth, of what the in of this number of the instance `at` of a let has."""
        word = let.right[0]
        if word == "fold" and number == 0 and at > 0:
            return [("flat", flow_name(beneath(place, let)[at - 1], callee.out_names[0], 0))]
        part = let.parts[0] if word == "pairs" else let.parts[number]
        terms = _terms_of_part(part, place, ("first", place, let.number))
        if word == "call":
            return terms
        return [terms[at + number if word == "pairs" else at]]

    def _open_begin(self, place, plan, let, child):
        """Whether an instance that a let calls has a turn, and whether it begins anew."""
        if let.block >= 0:
            turn = ("flat", ("runs", place, let.block, let.state))
            fresh = ("flat", ("enter", place, let.block, let.state))
        else:
            turn = _truth_of_clock(place, plan.flows[let.names[0]][1])
            fresh = ("flat", ("fresh", place))
        every = let.right[-1]
        if every is not None:
            begun = ("and", ("flat", ("turn", child)), ("flat", flow_name(place, every, 0)))
            fresh = ("or", fresh, begun)
        self._row(("turn", child), 1, (), turn)
        self._row(("fresh", child), 1, (), fresh)

    def _open_block(self, place, number, block):
        begin = ("cell", ("next", place, number))
        state = ("flat", ("state", place, number))
        turn = ("flat", ("turn", place))
        ways = [(way, ("way", place, number, at)) for at, way in enumerate(block.ways)]
        goals = [(way.state, name, way.goal) for way, name in ways if way.strong]
        anews = [(way.state, name, way.anew) for way, name in ways if way.strong]
        for way, name in ways:
            condition = flat_term(way.condition, None, place, ("guard", place, number))
            self._row(name, 1, (), ("and", turn, condition))
        self._row(state[1], 2, turn_clock(place), chosen(goals, begin, 2, begin))
        self._row(("took", place, number), 1, (), chosen([(way[0], way[1], 1) for way in goals], begin, 1, NO))
        self._row(("afresh", place, number), 1, (), chosen(anews, begin, 1, NO))
        entered = ("and", turn, ("cell", ("anew", place, number)))
        for at in range(block.states):
            begins = ("and", entered, ("same", begin, ("lit", 2, at)))
            runs = ("same", state, ("lit", 2, at))
            led = ("and", ("flat", ("afresh", place, number)), runs)
            self._row(("runs", place, number, at), 1, (), ("and", turn, runs))
            self._row(("enter", place, number, at), 1, (), ("or", ("flat", ("fresh", place)), ("or", begins, led)))

    def _open_cells(self, place, plan):
        turn = turn_clock(place)
        held = {}
        for let in plan.lets:
            clock = let_clock(place, plan, let)
            for part in let.parts:
                for number, conditions in conditions_of_firsts(part, clock, place):
                    held["first", place, let.number, number] = (conditions, NO, _begins_of(place, let))
        for number, block in enumerate(plan.blocks):
            for at in range(block.firsts):
                held["guard", place, number, at] = (turn, NO, _begins(place))
            goal, anew = _terms_behind(place, number, block)
            held["next", place, number] = (turn, goal, _begins(place))
            held["anew", place, number] = (turn, anew, _begins(place))
        for name in plan.lasts:
            many, _ = worths_of_kind(plan.flows[name][0])
            clock = flat_clock(place, plan.flows[name][1])
            for at in range(many):
                held["last", place, name, at] = (clock, ("flat", flow_name(place, name, at)), _begins(place))
        items = items_at(place, plan)
        for item in items:
            self._cells[item] = (item, *items[item], *held[item])


def _begins(place):
    """What tells whether an instance begins anew: the main one never does."""
    return None if place == () else ("fresh", place)


def _begins_of(place, let):
    """What tells whether the firsts of a let are as at their begin."""
    return _begins(place) if let.block < 0 else ("enter", place, let.block, let.state)


def _terms_of_part(part, place, head):
    if isinstance(part.kind, tuple):
        return [flat_term(part, at, place, head) for at in range(part.kind[0])]
    return [flat_term(part, None, place, head)]


def _truth_of_clock(place, clock):
    """A term that has 1 just where an instance has a turn, and a flow of this clock a worth."""
    term = ("flat", ("turn", place))
    for name, truth in clock:
        flow = ("flat", flow_name(place, name, 0))
        # A flow that is silent is read as 0, so that 1 alone tells that it is there.
        term = flow if truth == 1 else ("and", term, ("not", flow))
    return term


def _terms_behind(place, number, block):
    """The terms of the state in which the next turn of a block begins, and of whether it is entered anew."""
    state = ("flat", ("state", place, number))
    took = ("flat", ("took", place, number))
    ways = [(way, ("way", place, number, at)) for at, way in enumerate(block.ways) if not way.strong]
    goal = chosen([(way.state, name, way.goal) for way, name in ways], state, 2, state)
    anew = chosen([(way.state, name, way.anew) for way, name in ways], state, 1, NO)
    return ("pick", took, state, goal), ("pick", took, NO, anew)
