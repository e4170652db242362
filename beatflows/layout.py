"""The instances of a good program, and the items that a run of it remembers."""

from beatflows.kinds import is_number
from beatflows.plans import plans_of, worths_of_kind


class Layout:
    """Where the instances of a program are, and what each remembers at its begin."""

    def __init__(self, program):
        self._plans = plans_of(program)
        self._at = {}
        waiting = [((), self._plans[program.main()])]
        while waiting:
            place, plan = waiting.pop()
            self._at[place] = plan
            for let in plan.lets:
                if let.calls:
                    callee = self.callee(let)
                    waiting.extend([(child, callee) for child in beneath(place, let)])

    def all_places(self):
        """All places, rising."""
        return sorted(self._at)

    def has(self, thing):
        """Tell of any thing whether it is the place of an instance."""
        # What is no place can't be looked up, and True would pass for 1.
        if not isinstance(thing, tuple) or not all([_is_step(step) for step in thing]):
            return False
        return thing in self._at

    def plan_at(self, place):
        return self._at[place]

    def callee(self, let):
        """The plan of the node that a let calls."""
        return self._plans[let.right[1]]

    def begins(self):
        """Of all items, rising, what they are at their begin."""
        told = {}
        for place in self._at:
            items = items_at(place, self._at[place])
            for item in items:
                told[item] = items[item][1]
        return {item: told[item] for item in sorted(told)}

    def items_beneath(self, place, let):
        """The items of all instances that a let calls, near and far."""
        told = []
        waiting = beneath(place, let)
        while waiting:
            child = waiting.pop()
            plan = self._at[child]
            told.extend(list(items_at(child, plan)))
            for one in plan.lets:
                waiting.extend(beneath(child, one))
        return told


def layout_of(program):
    """The layout of a good program, made once."""
    if program.made("layout") is None:
        program.hold("layout", Layout(program))
    return program.made("layout")


def _is_step(thing):
    return isinstance(thing, tuple) and len(thing) == 2 and is_number(thing[0]) and is_number(thing[1])


def beneath(place, let):
    """The places of the instances that a let of the instance of this place calls."""
    return [place + ((let.number, at),) for at in range(let.instances)]


def items_at(place, plan):
    """The items of one instance, each with its width and what it is at its begin."""
    told = {}
    for let in plan.lets:
        for at in range(let.firsts):
            told["first", place, let.number, at] = (1, 1)
    for number, block in enumerate(plan.blocks):
        for at in range(block.firsts):
            told["guard", place, number, at] = (1, 1)
        told["next", place, number] = (2, 0)
        told["anew", place, number] = (1, 0)
    for name in plan.lasts:
        kind, _, first = plan.flows[name]
        many, width = worths_of_kind(kind)
        for at in range(many):
            told["last", place, name, at] = (width, worth_at(first, at))
    return told


def worth_at(worth, at):
    """The worth of this place of a row, or a lone one itself; 0 of None, as of a first that isn't there."""
    if worth is None:
        return 0
    return worth[at] if isinstance(worth, tuple) else worth
