"""Flat names, clocks and terms, and which ins, rows, cells and outs of a flat list are right."""

from beatflows.fitting import kind_by_word
from beatflows.kinds import WORDS, is_name, is_number, is_truth, is_whole, is_width, is_worth
from beatflows.terms import FORMS, terms_within


def is_flat_name(thing):
    """Tell whether it is a flat name or an item: a text, and at most four texts, numbers, or tuples of such."""
    if not isinstance(thing, tuple) or not 1 <= len(thing) <= 5:
        return False
    return isinstance(thing[0], str) and all([_may_stand_in_name(one) for one in thing[1:]])


def width_of_flat(term, flows, cells):
    """The width of a flat term that reads of these flows and cells, dicts to widths; None of what is no such term."""
    if not isinstance(term, tuple) or len(term) == 0 or not isinstance(term[0], str):
        return None
    word = term[0]
    if word == "lit":
        good = len(term) == 3 and is_width(term[1]) and is_worth(term[2], term[1])
        return term[1] if good else None
    if word == "flat" or word == "cell":
        known = flows if word == "flat" else cells
        return known.get(term[1]) if len(term) == 2 and is_flat_name(term[1]) else None
    if not _is_word_formed(term):
        return None
    return kind_by_word(term, [width_of_flat(part, flows, cells) for part in terms_within(term)])


def first_wrong(ins, rows, cells, outs):
    """The number, counted through the four, of the first thing that isn't right, or None."""
    known, begins = _known_cells(cells)
    widths = {}
    for at, thing in enumerate(ins):
        if not _is_right_in(thing, widths, known):
            return at
        widths[thing[0]] = thing[1]
    for at, thing in enumerate(rows):
        # A row may read the cells alone of which it stands fast whether they begin.
        free = {item: known[item] for item in begins if begins[item] is None or widths.get(begins[item]) == 1}
        if not _is_right_row(thing, widths, known, free):
            return len(ins) + at
        widths[thing[0]] = thing[1]
    items = {}
    for at, thing in enumerate(cells):
        if not _is_right_cell(thing, widths, known) or thing[0] in items:
            return len(ins) + len(rows) + at
        items[thing[0]] = True
    names = {}
    for at, thing in enumerate(outs):
        if not _is_right_out(thing, widths) or thing[0] in names:
            return len(ins) + len(rows) + len(cells) + at
        names[thing[0]] = True
    return None


def _may_stand_in_name(thing):
    if isinstance(thing, tuple):
        return all([_may_stand_in_name(one) for one in thing])
    return isinstance(thing, str) or is_number(thing)


def _is_word_formed(term):
    """Tell whether it is a word of reckoning or a pick, but for the terms within it."""
    word = term[0]
    if word != "pick" and word not in WORDS:
        return False
    if len(term) != len(FORMS[word]) + 1:
        return False
    if word == "wide":
        return is_width(term[1])
    return word != "bit" or is_whole(term[1], 0, 7)


def _known_cells(cells):
    """The widths of the cells that can be read, by their items, and, of those that rows may read, what begins them."""
    known = {}
    begins = {}
    for thing in cells:
        if isinstance(thing, tuple) and len(thing) == 6 and is_flat_name(thing[0]) and is_width(thing[1]):
            if thing[0] not in known:
                known[thing[0]] = thing[1]
                if thing[5] is None or is_flat_name(thing[5]):
                    begins[thing[0]] = thing[5]
    return known, begins


def _is_clock(thing, widths):
    return isinstance(thing, tuple) and all([_is_condition(condition, widths) for condition in thing])


def _is_condition(thing, widths):
    if not isinstance(thing, tuple) or len(thing) != 2:
        return False
    return _is_flow(thing[0], widths, 1) and is_truth(thing[1])


def _is_flow(thing, widths, width):
    return is_flat_name(thing) and widths.get(thing) == width


def _is_new_flow(thing, widths, known):
    """Tell whether an in or a row begins well, with a name of its own, that is no item, a width and a clock."""
    name, width, clock = thing
    if not is_flat_name(name) or name in widths or name in known:
        return False
    return is_width(width) and _is_clock(clock, widths)


def _is_right_in(thing, widths, known):
    return isinstance(thing, tuple) and len(thing) == 3 and _is_new_flow(thing, widths, known)


def _is_right_row(thing, widths, known, free):
    if not isinstance(thing, tuple) or len(thing) != 4 or not _is_new_flow(thing[:3], widths, known):
        return False
    return width_of_flat(thing[3], widths, free) == thing[1]


def _is_right_cell(thing, widths, known):
    if not isinstance(thing, tuple) or len(thing) != 6:
        return False
    item, width, first, clock, term, begins = thing
    if not is_flat_name(item) or not is_width(width) or not is_worth(first, width):
        return False
    if not _is_clock(clock, widths) or width_of_flat(term, widths, known) != width:
        return False
    return begins is None or _is_flow(begins, widths, 1)


def _is_right_out(thing, widths):
    if not isinstance(thing, tuple) or len(thing) != 3 or not is_name(thing[0]):
        return False
    names = thing[1]
    if not isinstance(names, tuple) or not 1 <= len(names) <= 4 or not is_flat_name(names[0]):
        return False
    width = widths.get(names[0])
    if width is None or not all([_is_flow(name, widths, width) for name in names]):
        return False
    return _is_clock(thing[2], widths)
