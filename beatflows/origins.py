"""Where the flat names and items of a program opened up come from."""

from beatflows.kinds import is_whole


class Origins:
    """Of the flat names and items of a layout, to which let, block or in each goes back."""

    def __init__(self, layout):
        self._layout = layout

    def origin_of(self, name):
        """The origin of a flat name or an item that is there."""
        word = name[0]
        place = name[1]
        if word == "flow":
            return self._of_flow(place, name[2], name[4])
        if word == "last":
            return self._of_flow(place, name[2], -1)
        if word == "first":
            return self._origin(place, "let", name[2])
        if word == "fresh" or word == "turn":
            return self._of_caller(place)
        # All others are of a block.
        return self._origin(place, "block", name[2])

    def has_let(self, place, at):
        """Tell of any things whether they are the place of an instance, and the number of a let of it."""
        return self._layout.has(place) and is_whole(at, 0, len(self._layout.plan_at(place).lets) - 1)

    def _origin(self, place, word, number):
        return (place, self._layout.plan_at(place).called, word, number)

    def _of_flow(self, place, name, let):
        if let >= 0:
            return self._origin(place, "let", let)
        plan = self._layout.plan_at(place)
        if name in plan.in_names:
            return self._of_caller(place)
        told_by = plan.told_by[name][0]
        if told_by.block >= 0:
            return self._origin(place, "block", told_by.block)
        return self._origin(place, "let", told_by.number)

    def _of_caller(self, place):
        """The origin of what is handed in to an instance: the let that calls it, an in of the main one's."""
        if place == ():
            return self._origin(place, "in", -1)
        return self._origin(place[:-1], "arg", place[-1][0])
