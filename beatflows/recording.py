"""What a flat list had at the beats of a run, and by what it had it."""

from beatflows.flat_rows import is_flat_name
from beatflows.flats import FlatReading, need_kept, says_so
from beatflows.kinds import is_list, is_number, is_whole
from beatflows.terms import terms_within


class Record:
    """The beats of a run of a flat list from its begin: of each, the worths of its flows, and what was kept ahead."""

    def __init__(self, flat):
        self._flat = flat
        self._rows = {flow[0]: flow for flow in [*flat.ins(), *flat.rows()]}
        self._cells = {cell[0]: cell for cell in flat.cells()}
        # Names in the list's order, then items.
        self._at = {thing: at for at, thing in enumerate([*self._rows, *self._cells])}
        self._beats = []
        self._kept = need_kept(flat, None)

    def do_beat(self, ins):
        """Do one more beat, with the worths of just those ins that aren't silent."""
        reading = FlatReading(self._flat, self._kept, ins)
        self._beats.append((reading.worths(), self._kept))
        self._kept = reading.kept()

    def lay(self, other):
        """Let all that another record of an equal list has be this one's."""
        self._beats = list(other._beats)
        self._kept = other._kept

    def beats_done(self):
        return len(self._beats)

    def knows(self, thing):
        """Tell whether it is a flat name or an item of the list."""
        return is_flat_name(thing) and thing in self._at

    def knows_item(self, thing):
        return is_flat_name(thing) and thing in self._cells

    def is_done(self, beat):
        return is_whole(beat, 0, self.beats_done() - 1)

    def had(self, thing, beat):
        """The worth of a flow, None where it was silent, or what an item read as."""
        worths, kept = self._beats[beat]
        if thing not in self._cells:
            return worths.get(thing)
        _, _, first, _, _, begins = self._cells[thing]
        return first if worths.get(begins) == 1 else kept[thing]

    def since(self, item, beat):
        """The last beat, up to this one, by which an item keeps what it keeps, and how it came to it."""
        _, _, _, clock, _, begins = self._cells[item]
        for at in reversed(range(beat + 1)):
            worths = self._beats[at][0]
            if says_so(clock, worths):
                return at, "kept"
            if worths.get(begins) == 1:
                return at, "begin"
        return 0, "begin"

    def reads(self, thing, beat):
        """By what a flow or an item had its worth: tuples (name or item, beat), each once, in their order."""
        if thing in self._cells:
            return self._reads_of_item(thing, beat)
        flow = self._rows[thing]
        things = [name for name, _ in flow[2]]
        if len(flow) == 4 and says_so(flow[2], self._beats[beat][0]):
            things.extend(read_in_term(flow[3]))
        return self._in_order(things, beat)

    def _reads_of_item(self, item, beat):
        _, _, _, clock, term, begins = self._cells[item]
        near = [] if begins is None else [(begins, beat)]
        if beat == 0 or self._beats[beat][0].get(begins) == 1:
            return tuple(near)
        things = [name for name, _ in clock]
        if says_so(clock, self._beats[beat - 1][0]):
            things.extend(read_in_term(term))
        else:
            things.append(item)
        return self._in_order(things, beat - 1) + tuple(near)

    def _in_order(self, things, beat):
        numbered = {self._at[thing]: thing for thing in things}
        return tuple([(numbered[number], beat) for number in sorted(numbered)])


def read_in_term(term):
    """The flat names and items that stand in a flat term, as they stand."""
    if term[0] == "flat" or term[0] == "cell":
        return [term[1]]
    told = []
    for part in terms_within(term):
        told.extend(read_in_term(part))
    return told


def reason_for(record, thing, beat):
    """All by which it has its worth at the beat: rows (name or item, beat, worth, reads), each behind what it reads."""
    rows = []
    done = {}
    waiting = [((thing, beat), None)]
    while waiting:
        key, reads = waiting.pop()
        if key in done:
            continue
        if reads is None:
            # It is met again when all that it reads is done.
            reads = record.reads(key[0], key[1])
            waiting.append((key, reads))
            waiting.extend([(read, None) for read in reversed(reads) if read not in done])
        else:
            done[key] = True
            rows.append((key[0], key[1], record.had(key[0], key[1]), reads))
    return rows


def is_reason(record, thing):
    """Tell whether it is a list of just the rows of a reason for its last one, each behind all that it reads."""
    if not is_list(thing) or len(thing) == 0:
        return False
    seen = {}
    for row in thing:
        if not _is_right_row(record, row, seen):
            return False
        seen[row[0], row[1]] = True
    # Backwards each row is met behind all that read it.
    asked = {(thing[-1][0], thing[-1][1]): True}
    for row in reversed(thing):
        if (row[0], row[1]) not in asked:
            return False
        for read in row[3]:
            asked[read] = True
    return True


def _is_right_row(record, row, seen):
    """Tell whether it is a row of a reason, that isn't there yet, and all that it reads is."""
    if not isinstance(row, tuple) or len(row) != 4:
        return False
    thing, beat, worth, reads = row
    if not record.knows(thing) or not record.is_done(beat) or (thing, beat) in seen:
        return False
    if not _is_same_worth(worth, record.had(thing, beat)):
        return False
    if not isinstance(reads, tuple) or not all([_is_read(read) for read in reads]):
        return False
    return reads == record.reads(thing, beat) and all([read in seen for read in reads])


def _is_same_worth(thing, worth):
    if worth is None:
        return thing is None
    # True passes for 1, but is no worth.
    return is_number(thing) and thing == worth


def _is_read(thing):
    return isinstance(thing, tuple) and len(thing) == 2 and is_flat_name(thing[0]) and is_number(thing[1])
