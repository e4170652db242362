"""Sayings about programs, and programs that tell alike: shown for all runs, or fallen."""

from beatflows.errors import NoIns, NoNumber, NoOut, NoWorths
from beatflows.facing import need_same_face
from beatflows.flats import FlatReading, need_flat, need_ins, need_kept
from beatflows.kinds import is_list, is_whole, is_worth
from beatflows.opening import opened
from beatflows.sweeping import PairSweep, SayingSweep, Walk, all_ins

# The most memories, or pairs of them, that may be asked for.
MOST_MEMORIES = 400


def saying(program, out, *, most=200):
    flat = opened(program)
    _need_saying(program, out)
    _need_most(most)
    sweep = SayingSweep(flat, out)
    walk = Walk(sweep, most)
    if walk.met is None:
        return "holds", sorted(walk.ahead)
    return "falls", walk.rows(sweep)


def shows_holds(program, out, thing):
    flat = opened(program)
    _need_saying(program, out)
    sweep = SayingSweep(flat, out)
    memories = _held_in(thing, "holds")
    if memories is None or not all([_is_memory(flat, memory) for memory in memories]):
        return False
    return _is_closed(sweep, memories)


def shows_falls(program, out, thing):
    flat = opened(program)
    _need_saying(program, out)
    all_ins(flat)
    rows = _held_in(thing, "falls")
    if rows is None or not all([_is_ins(flat, ins) for ins in rows]):
        return False
    fallen = [told.get(out) == 0 for told in _told_by(flat, rows)]
    return _is_first_at_last(fallen)


def likeness(one, other, *, most=200):
    flat = opened(one)
    flat_too = opened(other)
    _need_most(most)
    need_same_face(one, other)
    sweep = PairSweep(flat, flat_too)
    walk = Walk(sweep, most)
    if walk.met is None:
        return "alike", sorted(walk.ahead)
    return "parted", walk.rows(sweep)


def shows_alike(one, other, thing):
    flat = opened(one)
    flat_too = opened(other)
    need_same_face(one, other)
    sweep = PairSweep(flat, flat_too)
    pairs = _held_in(thing, "alike")
    if pairs is None or not all([_is_pair(flat, flat_too, pair) for pair in pairs]):
        return False
    return _is_closed(sweep, pairs)


def shows_parted(one, other, thing):
    flat = opened(one)
    flat_too = opened(other)
    need_same_face(one, other)
    all_ins(flat)
    rows = _held_in(thing, "parted")
    if rows is None or not all([_is_ins(flat, ins) for ins in rows]):
        return False
    told = _told_by(flat, rows)
    told_too = _told_by(flat_too, rows)
    return _is_first_at_last([told[at] != told_too[at] for at in range(len(rows))])


def nexts(flat, memory):
    need_flat(flat)
    if not _is_memory(flat, memory):
        raise NoWorths(memory)
    kept = _kept_of(flat, memory)
    told = []
    for ins in all_ins(flat):
        reading = FlatReading(flat, kept, ins)
        behind = reading.kept()
        told.append(({name: ins[name] for name in ins}, reading.outs(), tuple([behind[item] for item in behind])))
    return told


def reached(flat, *, most=200):
    need_flat(flat)
    _need_most(most)
    return Walk(SayingSweep(flat, None), most).beats()


def _need_saying(program, out):
    outs = {name: kind for name, kind, _, _ in program.node(program.main())[2]}
    if not isinstance(out, str) or outs.get(out) != 1:
        raise NoOut(out)


def _need_most(most):
    if not is_whole(most, 1, MOST_MEMORIES):
        raise NoNumber(most)


def _held_in(thing, word):
    """The list that a paper of this word holds, None of what is no such paper."""
    if not isinstance(thing, tuple) or len(thing) != 2:
        return None
    return thing[1] if thing[0] == word and is_list(thing[1]) else None


def _is_memory(flat, thing):
    cells = flat.cells()
    if not isinstance(thing, tuple) or len(thing) != len(cells):
        return False
    return all([is_worth(worth, cell[1]) for worth, cell in zip(thing, cells)])


def _is_pair(flat, flat_too, thing):
    if not isinstance(thing, tuple) or len(thing) != 2:
        return False
    return _is_memory(flat, thing[0]) and _is_memory(flat_too, thing[1])


def _is_ins(flat, thing):
    try:
        need_ins(flat, thing)
    except NoIns:
        return False
    return True


def _is_closed(sweep, things):
    """Tell whether the first one is among these, and all that beats lead to, at none of which anything is met."""
    there = {one: True for one in things}
    if sweep.first() not in there:
        return False
    for one in there:
        met, behind = sweep.step(one)
        if met is not None or not all([near in there for near in behind]):
            return False
    return True


def _is_first_at_last(truths):
    return len(truths) > 0 and truths[-1] and not any(truths[:-1])


def _kept_of(flat, memory):
    return {cell[0]: worth for cell, worth in zip(flat.cells(), memory)}


def _told_by(flat, rows):
    """The dicts that are told by these ins, however many beats that is."""
    kept = need_kept(flat, None)
    told = []
    for ins in rows:
        reading = FlatReading(flat, kept, need_ins(flat, ins))
        told.append(reading.outs())
        kept = reading.kept()
    return told
