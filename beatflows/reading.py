"""One beat of a run, read plainly: flows are worked out as they are needed, then all that waits is remembered."""

from beatflows.fitting import worth_by_word
from beatflows.kinds import is_width
from beatflows.layout import beneath, worth_at
from beatflows.plans import worths_of_kind


class Reading:
    """A beat of a run of a layout, begun with a memory and the worths of the main one's ins."""

    def __init__(self, layout, begins, memory, ins):
        self._layout = layout
        self._begins = begins
        self._memory = {item: memory[item] for item in memory}
        # What is remembered behind the beat: until then, all read what was remembered ahead of it.
        self._behind = {}
        self._worths = {((), name): ins[name] for name in ins}
        self._looked_at = {}
        # Of each block, by its place and number, the state that runs, and whether a strong way was taken.
        self._running = {}
        self._begun = {}
        self._finish(())

    def worths(self):
        """The worths, by places and names, of all flows that aren't silent."""
        return self._worths

    def memory(self):
        return {item: self._behind.get(item, self._memory[item]) for item in self._memory}

    def _finish(self, place):
        plan = self._layout.plan_at(place)
        for name in plan.order:
            self._look_at(place, plan, name)
        for let in plan.lets:
            if let.calls and self._is_worked_out(place, plan, let):
                self._finish_beneath(place, let)
        for number, block in enumerate(plan.blocks):
            self._leave(place, number, block)
        for name in plan.lasts:
            self._remember(place, plan, name)

    def _finish_beneath(self, place, let):
        ins = list(range(len(self._layout.callee(let).in_names)))
        for at, child in enumerate(beneath(place, let)):
            self._hand_in(place, let, at, ins)
            self._finish(child)

    def _is_worked_out(self, place, plan, let):
        if let.block >= 0:
            return self._running[place, let.block][0] == let.state
        return self._says_so(place, plan.flows[let.names[0]][1])

    def _says_so(self, place, clock):
        return all([self._worths.get((place, name)) == truth for name, truth in clock])

    def _look_at(self, place, plan, name):
        if (place, name) in self._looked_at:
            return
        self._looked_at[place, name] = True
        let = self._let_that_tells(place, plan, name)
        if not self._says_so(place, plan.flows[name][1]):
            return
        if let.calls:
            self._worths[place, name] = self._told_from_beneath(place, let, let.names.index(name))
        else:
            self._worths[place, name] = self._worth(let.parts[0], place, ("first", place, let.number))

    def _let_that_tells(self, place, plan, name):
        lets = plan.told_by[name]
        block = lets[0].block
        if block < 0:
            return lets[0]
        if (place, block) not in self._running:
            self._settle(place, plan, block)
        return lets[self._running[place, block][0]]

    def _told_from_beneath(self, place, let, out):
        self._begin_by_every(place, let)
        callee = self._layout.callee(let)
        told = []
        for at, child in enumerate(beneath(place, let)):
            self._hand_in(place, let, at, callee.hanging[out])
            for name in callee.chains[out]:
                self._look_at(child, callee, name)
            told.append(self._worths[child, callee.out_names[out]])
        return tuple(told) if let.right[0] in ("map", "pairs") else told[-1]

    def _begin_by_every(self, place, let):
        if (place, let.number) in self._begun:
            return
        self._begun[place, let.number] = True
        every = let.right[-1]
        if every is not None and self._worths[place, every] == 1:
            self._begin_beneath(place, let)

    def _begin_beneath(self, place, let):
        for item in self._layout.items_beneath(place, let):
            self._memory[item] = self._begins[item]

    def _hand_in(self, place, let, at, ins):
        """Hand the ins of these numbers in to the instance number `at` of those that a let calls."""
        child = beneath(place, let)[at]
        names = self._layout.callee(let).in_names
        for number in ins:
            if (child, names[number]) not in self._worths:
                self._worths[child, names[number]] = self._worth_of_in(place, let, at, number)

    def _worth_of_in(self, place, let, at, number):
        word = let.right[0]
        if word == "fold" and number == 0 and at > 0:
            ahead = beneath(place, let)[at - 1]
            return self._worths[ahead, self._layout.callee(let).out_names[0]]
        part = let.parts[0] if word == "pairs" else let.parts[number]
        worth = self._worth(part, place, ("first", place, let.number))
        if word == "pairs":
            return worth[at + number]
        if word == "call" or (word == "fold" and number == 0):
            return worth
        return worth[at]

    def _settle(self, place, plan, number):
        """Find the state of a block that runs at this turn, and let begin anew what is entered anew."""
        begin = self._memory["next", place, number]
        if self._memory["anew", place, number] == 1:
            self._enter_anew(place, plan, number, begin)
        way = self._first_way(place, number, plan.blocks[number], begin, True)
        if way is None:
            self._running[place, number] = (begin, False)
            return
        if way.anew == 1:
            self._enter_anew(place, plan, number, way.goal)
        self._running[place, number] = (way.goal, True)

    def _first_way(self, place, number, block, state, strong):
        """The first of the ways of a state, the strong ones or the weak ones, that may be taken, or None."""
        taken = None
        for way in block.ways:
            if way.strong == strong:
                # All conditions are worked out, those behind the way taken, and of other states, too.
                truth = self._worth(way.condition, place, ("guard", place, number))
                if taken is None and way.state == state and truth == 1:
                    taken = way
        return taken

    def _enter_anew(self, place, plan, number, state):
        for let in plan.lets:
            if let.block == number and let.state == state:
                for at in range(let.firsts):
                    self._memory["first", place, let.number, at] = 1
                self._begin_beneath(place, let)

    def _leave(self, place, number, block):
        state, strong = self._running[place, number]
        way = self._first_way(place, number, block, state, False)
        stays = strong or way is None
        self._behind["next", place, number] = state if stays else way.goal
        self._behind["anew", place, number] = 0 if stays else way.anew

    def _remember(self, place, plan, name):
        if (place, name) in self._worths:
            many, _ = worths_of_kind(plan.flows[name][0])
            for at in range(many):
                self._behind["last", place, name, at] = worth_at(self._worths[place, name], at)

    def _worth(self, part, place, head):
        """The worth of a part in an instance, head being what the items of its firsts begin with."""
        if part.word == "lit":
            return part.term[2]
        if part.word == "name":
            return self._worths[place, part.term[1]]
        if part.word == "last":
            return self._last(part, place)
        if part.word == "merge":
            side = 0 if self._worths[place, part.term[1]] == 1 else 1
            return self._worth(part.parts[side], place, head)
        worths = [self._worth(one, place, head) for one in part.parts]
        if part.word == "first":
            item = head + (part.number,)
            self._behind[item] = 0
            return worths[0] if self._memory[item] == 1 else worths[1]
        if part.word == "when":
            return worths[0]
        if part.word == "row":
            return tuple(worths)
        if part.word == "at":
            return worths[0][part.term[1]]
        return worth_by_word(part.term, [one.kind for one in part.parts], worths)

    def _last(self, part, place):
        many, _ = worths_of_kind(part.kind)
        worths = [self._memory["last", place, part.term[1], at] for at in range(many)]
        return worths[0] if is_width(part.kind) else tuple(worths)
