"""How much there may be, at most, where more is refused."""

# The beats for which a run goes on.
MOST_BEATS = 120

# The flat flows of a flat list, ins and rows together, and its cells.
MOST_FLOWS = 400
MOST_CELLS = 200
