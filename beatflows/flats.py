"""Flat lists: all by flows of widths alone, and runs of them."""

from beatflows.bounds import MOST_BEATS, MOST_CELLS, MOST_FLOWS
from beatflows.errors import NoFlat, NoIns, NoRow, NotThere, NoWorths, Over, TooMany
from beatflows.fitting import kind_by_word, worth_by_word
from beatflows.flat_rows import first_wrong, is_flat_name
from beatflows.kinds import is_list, is_worth
from beatflows.terms import terms_within


class Flat:
    """A flat list of ins, rows, cells and outs; it never changes."""

    def __init__(self, ins, rows, cells, outs):
        for thing in (ins, rows, cells, outs):
            if not is_list(thing):
                raise NoFlat(thing)
        many = len(ins) + len(rows)
        if many > MOST_FLOWS:
            raise TooMany(many)
        if len(cells) > MOST_CELLS:
            raise TooMany(len(cells))
        wrong = first_wrong(ins, rows, cells, outs)
        if wrong is not None:
            raise NoRow(wrong)
        self._four = (tuple(ins), tuple(rows), tuple(cells), tuple(outs))
        self._flows = {flow[0]: (flow[1], flow[2]) for flow in [*ins, *rows]}

    def __eq__(self, other):
        return isinstance(other, Flat) and self._four == other._four

    def __len__(self):
        return len(self._four[1])

    def ins(self):
        return list(self._four[0])

    def rows(self):
        return list(self._four[1])

    def cells(self):
        return list(self._four[2])

    def outs(self):
        return list(self._four[3])

    def width(self, name):
        return self._flow(name)[0]

    def clock(self, name):
        return self._flow(name)[1]

    def width_there(self, name):
        """The width of a flat name that is known to be there."""
        return self._flows[name][0]

    def _flow(self, name):
        if not is_flat_name(name) or name not in self._flows:
            raise NotThere(name)
        return self._flows[name]


class FlatRun:
    """A run of a flat list, beat by beat."""

    def __init__(self, flat, *, kept=None):
        need_flat(flat)
        self._flat = flat
        self._kept = need_kept(flat, kept)
        self._worths = {}
        self._beats = 0

    def beat(self, ins):
        if self._beats >= MOST_BEATS:
            raise Over(self._beats)
        reading = FlatReading(self._flat, self._kept, need_ins(self._flat, ins))
        told, kept = reading.outs(), reading.kept()
        self._worths = reading.worths()
        self._kept = kept
        self._beats += 1
        return told

    def worth(self, name):
        # What is no flat name of the list is refused by the list itself.
        self._flat.width(name)
        return self._worths.get(name)

    def kept(self):
        return {item: self._kept[item] for item in self._kept}

    def beats(self):
        return self._beats

    def twin(self):
        other = FlatRun(self._flat, kept=self._kept)
        other._worths = {name: self._worths[name] for name in self._worths}
        other._beats = self._beats
        return other


class FlatReading:
    """A beat of a flat list, begun with what is kept and the worths of the ins that aren't silent."""

    def __init__(self, flat, kept, ins):
        self._flat = flat
        self._worths = {name: ins[name] for name in ins}
        self._cells = {cell[0]: cell for cell in flat.cells()}
        self._kept = kept
        for name, _, clock, term in flat.rows():
            if says_so(clock, self._worths):
                self._worths[name] = self._worth(term)[1]

    def worths(self):
        """The worths of the flat flows that aren't silent."""
        return {name: self._worths[name] for name in self._worths}

    def kept(self):
        """What is kept behind the beat."""
        told = {}
        for item, _, first, clock, term, begins in self._flat.cells():
            if says_so(clock, self._worths):
                told[item] = self._worth(term)[1]
            else:
                told[item] = first if self._worths.get(begins) == 1 else self._kept[item]
        return told

    def outs(self):
        told = {}
        for name, flows, clock in self._flat.outs():
            if says_so(clock, self._worths):
                told[name] = as_told([self._worths.get(flow, 0) for flow in flows])
        return told

    def _worth(self, term):
        """The width and the worth of a flat term."""
        word = term[0]
        if word == "lit":
            return term[1], term[2]
        if word == "flat":
            return self._flat.width_there(term[1]), self._worths.get(term[1], 0)
        if word == "cell":
            return self._cell(term[1])
        pairs = [self._worth(part) for part in terms_within(term)]
        widths = [width for width, _ in pairs]
        worths = [worth for _, worth in pairs]
        return kind_by_word(term, widths), worth_by_word(term, widths, worths)

    def _cell(self, item):
        _, width, first, _, _, begins = self._cells[item]
        return width, first if self._worths.get(begins) == 1 else self._kept[item]


def says_so(clock, worths):
    """Tell whether a clock says so by the worths of the flows that aren't silent."""
    return all([worths.get(name) == truth for name, truth in clock])


def as_told(worths):
    """What an out tells that has these worths: a lone one itself, of more a row."""
    return worths[0] if len(worths) == 1 else tuple(worths)


def need_flat(thing):
    if not isinstance(thing, Flat):
        raise NoFlat(thing)


def need_ins(flat, ins):
    """The dict of just the ins that aren't silent, in order; refuses with NoIns."""
    if not isinstance(ins, dict) or not all([is_flat_name(name) for name in ins]):
        raise NoIns(ins)
    told = {}
    for name, width, clock in flat.ins():
        if says_so(clock, told):
            if name not in ins or not is_worth(ins[name], width):
                raise NoIns(ins)
            told[name] = ins[name]
    if len(told) != len(ins):
        raise NoIns(ins)
    return told


def need_kept(flat, kept):
    """A dict of the worths of all items, in order, None standing for their firsts; refuses with NoWorths."""
    cells = flat.cells()
    if kept is None:
        return {cell[0]: cell[2] for cell in cells}
    if not isinstance(kept, dict) or len(kept) != len(cells) or not all([is_flat_name(item) for item in kept]):
        raise NoWorths(kept)
    if not all([cell[0] in kept and is_worth(kept[cell[0]], cell[1]) for cell in cells]):
        raise NoWorths(kept)
    return {cell[0]: kept[cell[0]] for cell in cells}
