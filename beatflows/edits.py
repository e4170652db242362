"""Edits: programs that take over while a run goes on, and what goes on with them."""

from beatflows.bounds import MOST_BEATS
from beatflows.errors import NoEdit, NoNumber, NotThere, Over
from beatflows.facing import need_same_face
from beatflows.firsts import need_good
from beatflows.items import Items
from beatflows.kinds import is_list, is_whole
from beatflows.runs import Run

# The most items that are led over by hand.
MOST_LED = 40


class Live(Run):
    """A run that may be edited."""

    def __init__(self, program):
        super().__init__(program)
        # Tuples (beat, program, led), rising, led being a tuple.
        self._to_come = []
        self._taken = []

    def beat(self, ins):
        if not self._to_come or self._to_come[0][0] != self._beats:
            return super().beat(ins)
        at, program, led = self._to_come[0]
        other = Run(program)
        other.remembers(_led_memory(Items(self._program), Items(program), led, self.kept()), at)
        # What is refused changes nothing: this one goes over when the beat is done.
        told = other.beat(ins)
        self._go_over(other, program)
        self._taken.append(self._to_come[0])
        self._to_come = self._to_come[1:]
        return told

    def fresh(self):
        return Live(self._program)

    def lay(self, other):
        self._go_over(other, other.program())
        self._to_come = list(other._to_come)
        self._taken = list(other._taken)

    def edit(self, program, *, at, led=()):
        need_good(program)
        need_same_face(self._program, program)
        if not is_whole(at, 0, MOST_BEATS - 1):
            raise NoNumber(at)
        if at < self._beats:
            raise Over(at)
        ahead = self._ahead_of(at)
        _need_led(led, Items(ahead[-1][1] if ahead else self._program), Items(program))
        self._to_come = [*ahead, (at, program, tuple(led))]

    def take_back(self, at):
        if not is_whole(at, 0, MOST_BEATS - 1) or at not in [edit[0] for edit in self._to_come]:
            raise NotThere(at)
        self._to_come = self._ahead_of(at)

    def program(self):
        return self._program

    def to_come(self):
        return [(at, program, list(led)) for at, program, led in self._to_come]

    def taken(self):
        return [(at, program, list(led)) for at, program, led in self._taken]

    def _ahead_of(self, at):
        """The edits to come for beats ahead of this one."""
        return [edit for edit in self._to_come if edit[0] < at]

    def _go_over(self, other, program):
        """Let all that another run of a program has be this one's, but for edits."""
        super().lay(other)
        self._program = program
        self._layout = other._layout
        self._begins = other._begins


def led_over(one, other):
    need_good(one)
    need_good(other)
    items = Items(one)
    items_too = Items(other)
    return [(item, "kept" if items_too.goes_on(item, items) else "begun") for item in items_too.rising()]


def _led_memory(items, items_too, led, kept):
    """What is remembered where a program takes over, of what was kept by the one ahead."""
    by_hand = {new: old for old, new in led}
    told = {}
    for item in items_too.rising():
        if item in by_hand:
            told[item] = kept[by_hand[item]]
        elif items_too.goes_on(item, items):
            told[item] = kept[item]
        else:
            told[item] = items_too.begin(item)
    return told


def _need_led(led, items, items_too):
    if not is_list(led) or len(led) > MOST_LED:
        raise NoEdit(led)
    seen = {}
    for thing in led:
        if not _may_be_led(thing, items, items_too) or thing[1] in seen:
            raise NoEdit(thing)
        seen[thing[1]] = True


def _may_be_led(thing, items, items_too):
    if not isinstance(thing, tuple) or len(thing) != 2:
        return False
    old, new = thing
    if not items.knows(old) or not items_too.knows(new) or items.width(old) != items_too.width(new):
        return False
    if new[0] != "next":
        return True
    # A state that the new block hasn't can't be led to it.
    return old[0] == "next" and items.states_of(old) <= items_too.states_of(new)
