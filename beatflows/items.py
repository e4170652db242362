"""The items of a program: how wide they are, what they begin with, and which go on where a program takes over."""

from beatflows.flat_rows import is_flat_name
from beatflows.layout import items_at, layout_of


class Items:
    """The items of a good program."""

    def __init__(self, program):
        self._layout = layout_of(program)
        self._items = {}
        for place in self._layout.all_places():
            items = items_at(place, self._layout.plan_at(place))
            for item in items:
                self._items[item] = items[item]

    def rising(self):
        return sorted(self._items)

    def knows(self, thing):
        return is_flat_name(thing) and thing in self._items

    def width(self, item):
        return self._items[item][0]

    def begin(self, item):
        return self._items[item][1]

    def states_of(self, item):
        """How many states the block has of which this is the `next`."""
        return self._plan_of(item).blocks[item[2]].states

    def goes_on(self, item, old):
        """Tell whether an item goes on as it is where this program takes over from one of those old items."""
        if not old.knows(item) or self.width(item) != old.width(item) or self._called(item) != old._called(item):
            return False
        if item[0] == "next":
            return self.states_of(item) == old.states_of(item)
        return item[0] != "last" or self._kind_of_last(item) == old._kind_of_last(item)

    def _plan_of(self, item):
        return self._layout.plan_at(item[1])

    def _called(self, item):
        return self._plan_of(item).called

    def _kind_of_last(self, item):
        return self._plan_of(item).flows[item[2]][0]
