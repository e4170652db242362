"""Promises 61 to 65: steps, codes, their runs, and turns step by step."""

import random

from beatflows.errors import Barred, FlowError, NoCode, NoFlat, NoIns, NoNumber, NoWorths, Over, TooMany
from beatflows.flats import Flat, FlatRun
from beatflows.kinds import reckoned
from beatflows.opening import opened
from beatflows.steps import Code, CodeRun, Turn, are_steps, wanted_ins
from tests.chance import some_program
from tests.flat_chance import some_flat, some_flat_ins
from tests.helper import RefusalCase, any_things
from tests.test_flats import A, B, C, D, I, J, c, cell, f, lit, row

MANY = {"registers": 3, "cells": 2, "ins": 1, "outs": 2}


class AreSteps(RefusalCase):
    def good(self, *steps, **more):
        self.told_true(are_steps(tuple(steps), **(more or MANY)))

    def bad(self, *steps, **more):
        self.told_false(are_steps(tuple(steps), **(more or MANY)))

    def test_each_form(self):
        self.good()
        self.good(("put", 2, 0), ("put", 0, 255))
        self.good(("do", 0, "not", 1, (2,), 0), ("do", 0, "add", 8, (0, 2), 0), ("do", 2, "wide", 1, (0,), 8), ("do", 2, "bit", 3, (0,), 2))
        for word in ("and", "or", "xor", "add", "sub", "less", "same"):
            self.good(("do", 0, word, 4, (1, 1), 0))
            for args, more in (((1,), 0), ((1, 1, 1), 0), ((), 0), ((1, 3), 0), ((3, 1), 0), ((1, -1), 0), ([1, 1], 0), ((1, True), 0), (1, 0),
                               ((1, 1), 1), ((1, 1), -1), ((1, 1), None), ((1, 1), False), ((1, None), 0), ("ab", 0)):
                self.bad(("do", 0, word, 4, args, more))
        self.good(("pick", 0, 1, 2, 0), ("read", 2, 1), ("write", 1, 2), ("in", 2, 0), ("out", 1, 2))
        self.good(("go", 1), ("put", 0, 0), ("skip", 0, 1, 1), ("put", 0, 0), ("skip", 2, 0, 1), ("put", 0, 0))

    def test_words_of_one_part(self):
        for word, good, bad in (("not", (0,), (1, -1, None, False, "0")), ("wide", range(1, 9), (0, 9, None, True, "1")), ("bit", range(4), (4, -1, True, None))):
            for more in good:
                self.good(("do", 0, word, 4, (1,), more))
            for more in bad:
                self.bad(("do", 0, word, 4, (1,), more))
            for args in ((), (1, 1), (3,), (-1,), (True,), [1], 1, None):
                self.bad(("do", 0, word, 4, args, 1 if word == "wide" else 0))

    def test_words_widths_and_registers(self):
        for word in ("nor", "pick", "", None, 1, ["not"], ("not",)):
            self.bad(("do", 0, word, 4, (1,), 0))
            self.bad(("do", 0, word, 4, (1, 1), 0))
        for width in (0, 9, -1, True, None, "4", (2, 4)):
            self.bad(("do", 0, "not", width, (1,), 0))
            self.bad(("do", 0, "bit", width, (1,), 0))
        for at in (3, -1, True, False, None, "0", (0,)):
            for step in (("put", at, 0), ("do", at, "not", 4, (1,), 0), ("pick", at, 0, 0, 0), ("pick", 0, at, 0, 0), ("pick", 0, 0, at, 0),
                         ("pick", 0, 0, 0, at), ("read", at, 0), ("write", 0, at), ("in", at, 0), ("out", 0, at)):
                self.bad(step)
            self.bad(("skip", at, 1, 1), ("put", 0, 0))

    def test_cells_ports_and_worths(self):
        for at in (2, -1, True, False, None, "0", (0,)):
            self.bad(("read", 0, at))
            self.bad(("write", at, 0))
            self.bad(("out", at, 0))
        for at in (1, -1, True, False, None):
            self.bad(("in", 0, at))
        for worth in (256, -1, True, False, None, "1", (1,), 10 ** 29):
            self.bad(("put", 0, worth))
        none = {"registers": 0, "cells": 0, "ins": 0, "outs": 0}
        for step in (("put", 0, 0), ("in", 0, 0), ("out", 0, 0), ("read", 0, 0), ("write", 0, 0)):
            self.bad(step, **none)
        self.good(("go", 1), ("put", 0, 0), registers=1, cells=0, ins=0, outs=0)
        self.told_true(are_steps((), **none))

    def test_jumps(self):
        put = ("put", 0, 0)
        self.good(("go", 2), put, put)
        self.good(put, ("go", 1), put)
        self.bad(("go", 3), put, put)
        self.bad(put, put, ("go", 1))
        self.good(("skip", 0, 1, 2), put, put)
        self.bad(("skip", 0, 1, 3), put, put)
        self.bad(put, ("skip", 0, 0, 1))
        for many in (0, -1, True, None, "1", 10 ** 29):
            self.bad(("go", many), put, put)
            self.bad(("skip", 0, 1, many), put, put)
        for truth in (2, -1, True, False, None, "1"):
            self.bad(("skip", 0, truth, 1), put)

    def test_what_is_none(self):
        put = ("put", 0, 0)
        for thing in any_things():
            if thing != ():
                self.told_false(are_steps(thing, **MANY))
                self.bad(put, thing)
                self.bad((thing, 0, 0))
        self.told_false(are_steps([put], **MANY))
        for step in (list(put), ("put", 0), ("put", 0, 0, 0), ("PUT", 0, 0), ("go",), ("go", 1, 1), ("skip", 0, 1), ("in", 0), ("do", 0, "not", 4, (1,)),
                     ("call", 0), (), ("put",), (["put"], 0, 0)):
            self.bad(step)
            self.bad(put, step, put)
        self.assertRaises(TypeError, are_steps, (), 1, 1, 1, 1)

    def test_how_many_are_whole_numbers_from_0_on(self):
        for name in MANY:
            for many in (-1, None, True, "1", (1,)):
                self.told_false(are_steps((), **{**MANY, name: many}))


class Made(RefusalCase):
    def setUp(self):
        self.flat = Flat([(A, 1, ()), (B, 4, ((A, 1),))], [row(C, 4, ("add", f(B), c(I)), ((A, 1),)), row(D, 4, ("sub", f(C), lit(4, 3)))],
                         [cell(I, 4, 3, f(D), ((A, 1),), None), cell(J, 1, 1, ("not", c(J)), (), A)],
                         [("x", (C, D, C), ((A, 1),)), ("y", (B,), ())])

    def test_what_it_tells(self):
        code = Code(flat=self.flat)
        self.assertTrue(are_steps(code.steps(), registers=code.registers(), cells=2, ins=2, outs=4))
        self.assertEqual(code.cells(), [(I, 4, 3), (J, 1, 1)])
        self.assertEqual(code.ins(), self.flat.ins())
        self.assertEqual(code.outs(), [("x", 0), ("x", 1), ("x", 2), ("y", 0)])
        self.assertEqual(len(code), len(code.steps()))
        self.assertEqual(code.room(), code.registers() + 2)
        self.assertEqual(code.flat(), self.flat)
        self.assertIsInstance(code.steps(), tuple)

    def test_nothing(self):
        code = Code(Flat([], [], [], []))
        self.assertEqual((code.steps(), code.registers(), code.room(), code.most(), len(code)), ((), 0, 0, 0, 0))
        self.assertEqual((code.cells(), code.ins(), code.outs(), code.stands()), ([], [], [], []))
        run = CodeRun(code)
        self.assertEqual((run.beat({}), run.taken(), run.registers(), run.kept()), ({}, 0, [], {}))

    def test_told_lists_are_new(self):
        code = Code(self.flat)
        for tell in (code.cells, code.ins, code.outs, code.stands):
            ahead = list(tell())
            self.assertIsInstance(tell(), list)
            tell().clear()
            self.assertEqual(tell(), ahead)

    def test_room(self):
        need = Code(self.flat).room()
        for room in (need, need + 1, 999, None):
            self.assertEqual(Code(self.flat, room=room).steps(), Code(self.flat).steps())
        for room in (need - 1, 1):
            self.refused_fields(Barred, TooMany, {"many": need}, Code, self.flat, room=room)

    def test_refusals(self):
        for thing in any_things():
            self.refused(FlowError, NoFlat, thing, Code, thing, room=thing)
        for room in (0, -1, 1000, 10 ** 29, True, False, "1", (1,), []):
            self.refused(FlowError, NoNumber, room, Code, self.flat, room=room)
        for thing in any_things():
            if thing is not None and (thing != 9 or isinstance(thing, bool)):
                self.refused(FlowError, NoNumber, thing, Code, self.flat, room=thing)
        self.assertRaises(TypeError, Code, self.flat, 99)

    def test_the_most_steps_are_the_longest_way(self):
        def longest(steps, spot):
            if spot == len(steps):
                return 0
            step = steps[spot]
            if step[0] == "go":
                return 1 + longest(steps, spot + 1 + step[1])
            ways = [longest(steps, spot + 1)]
            if step[0] == "skip":
                ways.append(longest(steps, spot + 1 + step[3]))
            return 1 + max(ways)
        for seed in range(60):
            code = Code(some_flat(seed))
            if sum(1 for step in code.steps() if step[0] == "skip") < 14:
                self.assertEqual(code.most(), longest(code.steps(), 0))

    def test_steps_hang_on_the_flat_alone(self):
        other = {A: ("z",), B: ("y", 1), C: ("x", (1, 2)), D: ("w",), I: ("a",), J: ("b", "c")}

        def renamed(thing):
            if isinstance(thing, tuple):
                return other[thing] if thing in other else tuple(renamed(one) for one in thing)
            return {"x": "q", "y": "p"}.get(thing, thing)
        called = Flat(*[[renamed(one) for one in part] for part in
                        (self.flat.ins(), self.flat.rows(), self.flat.cells(), self.flat.outs())])
        self.assertEqual(Code(called).steps(), Code(self.flat, room=999).steps())
        self.assertEqual(Code(called).stands(), [renamed(thing) for thing in Code(self.flat).stands()])

    def test_for_whom_each_stands(self):
        for seed in range(60):
            flat = some_flat(seed)
            code = Code(flat)
            told = code.stands()
            self.assertEqual(len(told), len(code))
            together = [thing for at, thing in enumerate(told) if at == 0 or told[at - 1] != thing]
            things = [one[0] for part in (flat.ins(), flat.rows(), flat.cells(), flat.outs()) for one in part]
            self.assertEqual(sorted(map(repr, together)), sorted(map(repr, things)))


def flats():
    """Flat lists of programs and others, each with a chance of its own."""
    for seed in range(250):
        yield seed, some_flat(seed), random.Random(seed), some_flat_ins
    for seed in range(40):
        try:
            flat = opened(some_program(seed))
        except TooMany:
            continue
        yield seed, flat, random.Random(seed), some_flat_ins


class Runs(RefusalCase):
    def test_beside_flat_runs(self):
        for seed, flat, chance, ins_of in flats():
            code = Code(flat)
            one, other = FlatRun(flat), CodeRun(code)
            self.assertEqual((other.taken(), other.registers()), (0, [0] * code.registers()))
            for _ in range(10):
                ins = ins_of(flat, chance)
                self.assertEqual(list(one.beat(ins).items()), list(other.beat(ins).items()))
                self.assertEqual(list(one.kept().items()), list(other.kept().items()))
                self.assertLessEqual(other.taken(), code.most())
                self.assertEqual(len(other.registers()), code.registers())

    def test_kept_worths_handed_in(self):
        for seed in range(60):
            flat = some_flat(seed)
            chance = random.Random(seed)
            kept = {cell_of[0]: chance.randrange(2 ** cell_of[1]) for cell_of in reversed(flat.cells())}
            one, other = FlatRun(flat, kept=kept), CodeRun(code=Code(flat), kept=kept)
            self.assertEqual(list(other.kept().items()), [(item[0], kept[item[0]]) for item in flat.cells()])
            for _ in range(5):
                ins = some_flat_ins(flat, chance)
                self.assertEqual(one.beat(ins), other.beat(ins))
                self.assertEqual(one.kept(), other.kept())

    def test_as_the_document_reads_steps(self):
        for seed, flat, chance, ins_of in flats():
            code = Code(flat)
            run = CodeRun(code)
            for _ in range(4):
                ins = ins_of(flat, chance)
                ahead = list(run.kept().values())
                ports, cells, registers, taken = plainly_done(code, ahead, [ins.get(port[0], 0) for port in code.ins()])
                told = run.beat(ins)
                self.assertEqual((list(run.kept().values()), run.registers(), run.taken()), (cells, registers, taken))
                awaited = {}
                for number, (name, _) in enumerate(code.outs()):
                    if number in ports:
                        awaited.setdefault(name, []).append(ports[number])
                rows = {name: len(names) for name, names, _ in flat.outs()}
                self.assertEqual(told, {name: tuple(got) if rows[name] > 1 else got[0] for name, got in awaited.items()})

    def test_of_several_writes_the_last_counts_behind_all(self):
        flat = Flat([(A, 1, ()), (B, 1, ())], [row(C, 4, c(I))], [cell(I, 4, 3, ("add", c(I), lit(4, 1)), ((B, 1),), A)], [("x", (C,), ())])
        run = CodeRun(Code(flat))
        seen = []
        for a, b in ((0, 1), (0, 1), (1, 1), (1, 0), (0, 0)):
            seen.append((run.beat({A: a, B: b})["x"], run.kept()[I]))
        self.assertEqual(seen, [(3, 4), (4, 5), (3, 4), (3, 3), (3, 3)])

    def test_refusals(self):
        flat = Flat([(A, 1, ()), (B, 4, ((A, 1),))], [], [cell(I, 4, 3, ("add", c(I), lit(4, 1)))], [])
        code = Code(flat)
        for thing in [*any_things(), flat, code.steps()]:
            self.refused(FlowError, NoCode, thing, CodeRun, thing, kept=thing)
        for kept in [{}, {I: 16}, {I: True}, {I: 1, J: 1}, *any_things()]:
            if kept is not None:
                self.refused(FlowError, NoWorths, kept, CodeRun, code, kept=kept)
        run = CodeRun(code)
        run.beat({A: 1, B: 2})
        ahead = (run.beats(), run.kept(), run.taken(), run.registers())
        for ins in [{}, {A: 1}, {A: 0, B: 1}, {A: True}, {A: 1, B: 16}, *any_things()]:
            self.refused(FlowError, NoIns, ins, run.beat, ins)
        self.assertEqual((run.beats(), run.kept(), run.taken(), run.registers()), ahead)
        for _ in range(119):
            run.beat(ins={A: 0})
        for ins in ({A: 0}, None):
            self.refused_fields(Barred, Over, {"found": 120}, run.beat, ins)
        self.assertEqual((run.beats(), run.kept()), (120, {I: 11}))

    def test_twins(self):
        flat = Flat([(A, 1, ())], [row(B, 4, c(I), ((A, 1),))], [cell(I, 4, 3, ("add", c(I), lit(4, 1)), ((A, 1),))], [("x", (B,), ((A, 1),))])
        run = CodeRun(Code(flat))
        run.beat({A: 1})
        twin = run.twin()
        self.assertIs(twin.__class__, CodeRun)

        def all_of(one):
            return one.beats(), one.kept(), one.taken(), one.registers()
        ahead = all_of(run)
        self.assertEqual(all_of(twin), ahead)
        self.assertEqual(twin.beat({A: 0}), {})
        self.assertEqual(all_of(run), ahead)
        self.assertNotEqual(all_of(twin), ahead)
        self.assertEqual(twin.beat({A: 1}), run.beat({A: 1}))

    def test_told_lists_and_dicts_are_new(self):
        run = CodeRun(Code(Flat([(A, 1, ())], [], [cell(I, 1, 0, f(A))], [("x", (A,), ())])))
        run.beat({A: 1}).clear()
        run.kept().clear()
        run.registers().clear()
        self.assertEqual((run.kept(), run.registers()), ({I: 1}, [1]))


def plainly_done(code, cells, ports_in):
    """The steps done as the document reads them: ports out, cells, registers, and how many steps."""
    registers, written, out, spot, taken = [0] * code.registers(), {}, {}, 0, 0
    steps = code.steps()
    while spot < len(steps):
        word, *rest = steps[spot]
        spot, taken = spot + 1, taken + 1
        if word == "put":
            registers[rest[0]] = rest[1]
        elif word == "do":
            r, name, width, args, more = rest
            beside = {"wide": {"to": more}, "bit": {"at": more}}.get(name, {})
            registers[r] = reckoned(name, width, [registers[arg] for arg in args], **beside)
        elif word == "pick":
            registers[rest[0]] = registers[rest[2]] if registers[rest[1]] == 1 else registers[rest[3]]
        elif word == "read":
            registers[rest[0]] = cells[rest[1]]
        elif word == "write":
            written[rest[0]] = registers[rest[1]]
        elif word == "in":
            registers[rest[0]] = ports_in[rest[1]]
        elif word == "out":
            out[rest[0]] = registers[rest[1]]
        elif word == "go":
            spot += rest[0]
        elif registers[rest[0]] != rest[1]:
            spot += rest[2]
    return out, [written.get(at, kept) for at, kept in enumerate(cells)], registers, taken


def depth_of(term):
    if term[0] in ("flat", "cell"):
        return 1
    return 1 + max([depth_of(part) for part in term[1:] if isinstance(part, tuple)], default=0)


def terms_of(term):
    if term[0] in ("flat", "cell"):
        return 1
    return 1 + sum(terms_of(part) for part in term[1:] if isinstance(part, tuple))


class Sparing(RefusalCase):
    """Promise 65."""

    def test_how_many_registers(self):
        for _, flat, _, _ in flats():
            terms = [one[3] for one in flat.rows()] + [one[4] for one in flat.cells()]
            most = len(flat.ins()) + len(flat) + 2 * max([depth_of(term) for term in terms], default=0)
            self.assertLessEqual(Code(flat).registers(), most)

    def test_no_register_is_read_ahead_of_being_written(self):
        for _, flat, _, _ in flats():
            steps = Code(flat).steps()
            written = [None] * (len(steps) + 1)
            written[0] = frozenset()
            for at, step in enumerate(steps):
                read, got = self.registers_of(step)
                self.assertLessEqual(read, written[at])
                ways = [at + 1 + step[-1]] if step[0] == "go" else [at + 1] + [at + 1 + step[-1]] * (step[0] == "skip")
                for way in ways:
                    now = written[at] | got
                    written[way] = now if written[way] is None else written[way] & now

    def registers_of(self, step):
        word = step[0]
        if word in ("put", "read", "in"):
            return set(), {step[1]}
        if word == "do":
            return set(step[4]), {step[1]}
        if word == "pick":
            return set(step[2:]), {step[1]}
        if word in ("write", "out"):
            return {step[2]}, set()
        return ({step[1]} if word == "skip" else set()), set()

    def test_where_a_clock_doesnt_say_so_nothing_is_done(self):
        for _, flat, chance, ins_of in flats():
            code = Code(flat)
            stands = code.stands()
            run, other = CodeRun(code), FlatRun(flat)
            for _ in range(4):
                kept, ins = run.kept(), ins_of(flat, chance)
                other.beat(ins)
                silent = {one[0] for one in flat.rows() if other.worth(one[0]) is None}
                silent |= {one[0] for one in flat.cells() if not all(other.worth(name) == truth for name, truth in one[3])}
                turn = Turn(code, kept, ins)
                while not turn.ended():
                    step = code.steps()[turn.spot()]
                    if step[0] in ("do", "pick", "read"):
                        self.assertNotIn(stands[turn.spot()], silent)
                    turn.step()
                run.beat(ins)

    def test_none_but_of_terms(self):
        for _, flat, _, _ in flats():
            code = Code(flat)
            terms = {one[0]: one[-1] for one in flat.rows()} | {one[0]: one[4] for one in flat.cells()}
            done = {}
            for step, thing in zip(code.steps(), code.stands()):
                if step[0] in ("do", "pick", "read"):
                    done[thing] = done.get(thing, 0) + 1
            for thing, many in done.items():
                self.assertLessEqual(many, terms_of(terms[thing]))


class Turns(RefusalCase):
    def setUp(self):
        self.flat = Flat([(A, 1, ()), (B, 4, ((A, 1),))], [row(C, 4, ("add", f(B), c(I)), ((A, 1),))],
                         [cell(I, 4, 3, f(C), ((A, 1),)), cell(J, 4, 1, ("wide", 4, f(A)))], [("x", (C, B), ((A, 1),)), ("y", (A,), ())])
        self.code = Code(self.flat)

    def turns(self, code, kept, ins):
        turn = Turn(code=code, kept=kept, ins=ins)
        while not turn.ended():
            turn.step()
        return turn

    def test_step_by_step(self):
        for ins in ({A: 1, B: 5}, {A: 0}):
            run = CodeRun(self.code)
            turn = Turn(self.code, run.kept(), ins)
            seen = []
            self.assertEqual((turn.spot(), turn.taken(), turn.ended()), (0, 0, False))
            while not turn.ended():
                seen.append(turn.spot())
                self.assertEqual(turn.taken() + 1, len(seen))
                turn.step()
            self.assertEqual(seen, sorted(set(seen)))
            told = run.beat(ins)
            self.assertEqual((turn.outs(), turn.kept(), turn.taken(), turn.registers()), (told, run.kept(), run.taken(), run.registers()))
            self.assertEqual(list(turn.kept()), [I, J])

    def test_registers_as_they_are(self):
        turn = Turn(self.code, {I: 3, J: 1}, {A: 1, B: 5})
        self.assertEqual(turn.registers(), [0] * self.code.registers())
        turn.step()
        self.assertEqual(sum(turn.registers()), 1)
        turn.registers().clear()
        self.assertEqual(len(turn.registers()), self.code.registers())

    def test_what_was_handed_in_stays(self):
        kept, ins = {I: 3, J: 1}, {A: 1, B: 5}
        turn = Turn(self.code, kept, ins)
        kept[I], ins[B] = 0, 0
        while not turn.ended():
            turn.step()
        self.assertEqual((turn.outs(), turn.kept(), kept, ins), ({"x": (8, 5), "y": 1}, {I: 8, J: 1}, {I: 0, J: 1}, {A: 1, B: 0}))

    def test_copied(self):
        for at in range(self.turns(self.code, {I: 3, J: 1}, {A: 1, B: 5}).taken() + 1):
            turn = Turn(self.code, {I: 3, J: 1}, {A: 1, B: 5})
            for _ in range(at):
                turn.step()
            other = turn.copied()
            ahead = (turn.spot(), turn.taken(), turn.registers(), turn.ended())
            self.assertEqual((other.spot(), other.taken(), other.registers(), other.ended()), ahead)
            while not other.ended():
                other.step()
            self.assertEqual((turn.spot(), turn.taken(), turn.registers(), turn.ended()), ahead)
            while not turn.ended():
                turn.step()
            self.assertEqual((other.outs(), other.kept()), (turn.outs(), turn.kept()))
            self.assertEqual((turn.outs(), turn.kept()), ({"x": (8, 5), "y": 1}, {I: 8, J: 1}))

    def test_told_dicts_are_new(self):
        turn = self.turns(self.code, {I: 3, J: 1}, {A: 0})
        turn.outs().clear()
        turn.kept().clear()
        # Behind the last instruction there is none to do.
        turn.step()
        self.assertEqual((turn.outs(), turn.kept()), ({"y": 0}, {I: 3, J: 0}))


class WantedIns(RefusalCase):
    def test_by_worths_of_ins_ahead(self):
        flat = Flat([(A, 1, ()), (B, 1, ((A, 1),)), (C, 4, ((B, 0),)), (D, 4, ())], [], [], [])
        for worths, awaited in (({}, [A, D]), ({A: 0}, [A, D]), ({A: 1}, [A, B, D]), ({A: 1, B: 1}, [A, B, D]), ({A: 1, B: 0}, [A, B, C, D]),
                                ({A: 0, B: 0}, [A, D]), ({B: 0}, [A, D]), ({A: 1, B: 0, C: 3, D: 4}, [A, B, C, D]), ({D: 1}, [A, D])):
            self.assertEqual(wanted_ins(flat=flat, worths=worths), awaited)
        wanted_ins(flat, {}).clear()
        self.assertEqual(wanted_ins(flat, {}), [A, D])

    def test_just_those_that_a_beat_takes(self):
        for seed in range(80):
            flat, chance = some_flat(seed), random.Random(seed)
            ins = some_flat_ins(flat, chance)
            self.assertEqual(wanted_ins(flat, ins), list(ins))


if __name__ == "__main__":
    import unittest
    unittest.main()
