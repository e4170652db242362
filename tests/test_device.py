"""Promises 81 to 84: devices, ticks and beats, and letters that come late."""

import random

from beatflows.device import Device
from beatflows.errors import Barred, Busy, FlowError, NoCode, NoLetter, NoNumber, TooLate, TooSlow, Twice
from beatflows.flats import Flat
from beatflows.steps import Code, CodeRun, wanted_ins
from tests.flat_chance import some_flat
from tests.helper import RefusalCase, any_things
from tests.test_flats import A, B, C, I, NO_NAMES, c, cell, f, row

# `b` comes where `a` has 1; the sum of all that came is told then, and a row of it and `b`.
SUM = Flat([(A, 1, ()), (B, 4, ((A, 1),))], [row(C, 4, ("add", f(B), c(I)), ((A, 1),))],
           [cell(I, 4, 5, f(C), ((A, 1),), None)], [("x", (C,), ((A, 1),)), ("y", (C, B), ((A, 1),)), ("z", (A,), ())])

CODE = Code(SUM)


class Broken(Exception):
    """What a def that was handed in breaks off with."""


class Made(RefusalCase):
    def test_refusals(self):
        for thing in [*any_things(), SUM]:
            self.refused(FlowError, NoCode, thing, Device, thing, time=0)
        for thing in [0, 1000, -1, True, None, "64", 10 ** 29, (64,), [64]]:
            self.refused(FlowError, NoNumber, thing, Device, CODE, time=thing)
        most = CODE.most()
        for time in (1, most - 1):
            self.refused_fields(Barred, TooSlow, {"many": most}, Device, CODE, time=time)
        for time in (most, most + 1, 999):
            self.assertEqual(Device(code=CODE, time=time).tick(), 0)
        self.assertRaises(TypeError, Device, CODE, 64)

    def test_at_first(self):
        device = Device(CODE)
        self.assertEqual((device.tick(), device.beat(), device.lacks(), device.given(), device.came(), device.late()), (0, 0, [A], [], [], []))
        self.told_false(device.under_way())
        self.assertEqual(device.kept(), {I: 5})

    def test_a_beat_has_64_ticks_where_nothing_else_is_said(self):
        device = Device(CODE)
        for beat in range(2):
            device.give((A, beat, 0))
        device.ticks(64)
        self.assertEqual((device.beat(), device.under_way()), (1, False))
        device.ticks()
        self.assertEqual((device.beat(), device.under_way(), device.late()), (1, True, []))


class Letters(RefusalCase):
    def setUp(self):
        self.device = Device(CODE)

    def test_what_is_none(self):
        bad = [(A, 0), (A, 0, 1, 1), [A, 0, 1], (A, -1, 1), (A, 120, 1), (A, True, 1), (A, None, 1), (A, 0, 2), (A, 0, -1), (A, 0, True), (A, 0, None),
               (A, 0, (1,)), (B, 0, 16), (C, 0, 1), (I, 0, 1), ("a", 0, 1), (["a"], 0, 1), (("a", 0), 0, 1), (A, "0", 1), ({}, 0, 1)]
        for thing in bad + any_things() + [(name, 0, 1) for name in NO_NAMES]:
            self.refused(FlowError, NoLetter, thing, self.device.give, thing)
        self.assertEqual((self.device.given(), self.device.lacks()), ([], [A]))
        numbered = Device(Code(Flat([(("x", 1), 1, ())], [], [], [])))
        letter = (("x", True), 0, 1)
        self.refused(FlowError, NoLetter, letter, numbered.give, letter)
        self.assertIsNone(numbered.give((("x", 1), 119, 1)))

    def test_in_any_order_by_beats_then_ins(self):
        for letter in ((B, 7, 3), (A, 119, 1), (A, 7, 0), (B, 0, 15), (A, 2, 1)):
            self.assertIsNone(self.device.give(letter=letter))
        self.assertEqual(self.device.given(), [(B, 0, 15), (A, 2, 1), (A, 7, 0), (B, 7, 3), (A, 119, 1)])
        self.assertEqual(self.device.lacks(), [A])

    def test_twice_and_too_late(self):
        self.device.give((A, 0, 1))
        for worth in (0, 1):
            self.refused_fields(Barred, Twice, {"found": (A, 0)}, self.device.give, (A, 0, worth))
        self.device.give((B, 0, 2))
        self.device.ticks()
        self.assertTrue(self.device.under_way())
        # Given once, and too late, too: twice goes ahead.
        self.refused_fields(Barred, Twice, {"found": (B, 0)}, self.device.give, (B, 0, 3))
        self.device.ticks(63)
        self.device.give((A, 1, 0))
        self.device.ticks(2)
        letter = (B, 1, 2)
        self.refused(Barred, TooLate, letter, self.device.give, letter)
        self.refused_fields(FlowError, NoLetter, {"found": (B, 1, 16)}, self.device.give, (B, 1, 16))
        self.device.ticks(40)
        self.refused(Barred, TooLate, letter, self.device.give, letter)
        self.assertEqual((self.device.given(), self.device.came()[-1]), ([], ("z", 1, 0, self.device.came()[-1][3])))

    def test_what_lacks(self):
        self.assertEqual(self.device.lacks(), [A])
        self.device.give((B, 0, 3))
        self.assertEqual(self.device.lacks(), [A])
        self.device.give((A, 1, 1))
        self.device.give((A, 0, 1))
        self.assertEqual(self.device.lacks(), [])
        self.device.ticks()
        self.assertEqual((self.device.under_way(), self.device.lacks()), (True, []))
        self.device.ticks(60)
        self.assertEqual((self.device.beat(), self.device.under_way(), self.device.lacks()), (1, False, [B]))
        self.assertEqual(self.device.given(), [(A, 1, 1)])

    def test_letters_of_silent_ins_count_for_nothing(self):
        self.device.give((A, 0, 0))
        self.device.give((B, 0, 9))
        self.device.ticks(64)
        self.assertEqual([letter[:3] for letter in self.device.came()], [("z", 0, 0)])
        self.assertEqual(self.device.kept(), {I: 5})


class Ticks(RefusalCase):
    def steps_of(self, *rows):
        """How many steps each beat of these ins takes."""
        run, told = CodeRun(CODE), []
        for ins in rows:
            run.beat(ins)
            told.append(run.taken())
        return told

    def test_when_a_beat_begins_and_ends(self):
        steps, = self.steps_of({A: 1, B: 3})
        device = Device(CODE, time=100)
        device.give((A, 0, 1))
        device.give((B, 0, 3))
        for tick in range(steps - 1):
            self.assertEqual(device.ticks(), [])
            self.assertEqual((device.tick(), device.beat(), device.under_way(), device.kept()), (tick + 1, 0, True, {I: 5}))
        came = [("x", 0, 8, steps - 1), ("y", 0, (8, 3), steps - 1), ("z", 0, 1, steps - 1)]
        self.assertEqual(device.ticks(), came)
        self.assertEqual((device.tick(), device.beat(), device.under_way(), device.kept(), device.came()), (steps, 1, False, {I: 8}, came))
        device.give((A, 1, 0))
        device.ticks(100 - steps)
        self.assertEqual((device.tick(), device.under_way()), (100, False))
        device.ticks()
        self.assertEqual((device.under_way(), device.late()), (True, []))

    def test_a_beat_that_waits(self):
        device = Device(CODE, time=50)
        device.ticks(10)
        device.give((A, 0, 0))
        device.ticks()
        self.assertEqual((device.under_way(), device.late()), (True, [(0, 10)]))
        first, second = self.steps_of({A: 0}, {A: 0})
        device.give((A, 1, 0))
        device.ticks(first + 5)
        self.assertEqual((device.tick(), device.beat(), device.under_way()), (first + 16, 1, False))
        device.ticks(200)
        # In time again: the beat is no later for the one ahead that was.
        self.assertEqual(device.late(), [(0, 10)])
        self.assertEqual([letter[3] for letter in device.came()], [10 + first - 1, 50 + second - 1])
        device.give((A, 2, 0))
        device.ticks(1)
        self.assertEqual(device.late(), [(0, 10), (2, first + 216 - 100)])

    def test_the_next_beat_begins_no_sooner_than_the_tick_behind(self):
        first, = self.steps_of({A: 0})
        device = Device(CODE, time=CODE.most())
        for beat in range(4):
            device.give((A, beat, 0))
        late = Device(CODE, time=CODE.most())
        late.ticks(3 * CODE.most())
        for beat in range(4):
            late.give((A, beat, 0))
        late.ticks(4 * first)
        # All late: one begins at the tick behind the last one of the beat ahead.
        self.assertEqual([letter[3] for letter in late.came()], [3 * CODE.most() + first * many - 1 for many in (1, 2, 3, 4)][:len(late.came())])
        self.assertEqual(late.late()[:2], [(0, 3 * CODE.most()), (1, 2 * CODE.most() + first)])
        device.ticks(4 * CODE.most())
        self.assertEqual([letter[3] for letter in device.came()], [beat * CODE.most() + first - 1 for beat in range(4)])
        self.assertEqual(device.late(), [])

    def test_how_many_go_by(self):
        device = Device(CODE)
        self.assertEqual((device.ticks(0), device.tick()), ([], 0))
        self.assertEqual((device.ticks(many=2000), device.tick()), ([], 2000))
        for thing in [-1, 2001, True, "1", (1,), 10 ** 29, [], {}]:
            self.refused(FlowError, NoNumber, thing, device.ticks, thing)
        self.refused(FlowError, NoNumber, None, device.ticks, None)
        self.assertRaises(TypeError, device.ticks, 1, print)
        self.assertEqual(device.tick(), 2000)

    def test_beats_without_steps(self):
        device = Device(Code(Flat([], [], [], [])), time=3)
        device.ticks(1)
        self.assertEqual((device.beat(), device.under_way(), device.lacks()), (1, False, []))
        device.ticks(3)
        self.assertEqual((device.beat(), device.came(), device.late()), (2, [], []))

    def test_one_tick_late(self):
        device = Device(CODE, time=CODE.most())
        device.ticks()
        device.give((A, 0, 0))
        device.ticks()
        self.assertEqual((device.under_way(), device.late()), (True, [(0, 1)]))

    def test_120_beats_that_need_no_letters(self):
        code = Code(Flat([], [row(A, 2, ("add", c(I), ("lit", 2, 1)))], [cell(I, 2, 0, f(A), (), None)], [("x", (A,), ())]))
        device = Device(code, time=code.most())
        while device.tick() < 130 * code.most():
            device.ticks(10)
        self.assertEqual((device.beat(), device.under_way(), len(device.came()), device.kept()), (120, False, 120, {I: 0}))

    def test_120_beats(self):
        device = Device(CODE, time=CODE.most())
        for beat in range(120):
            device.give((A, beat, 0))
        while device.beat() < 120:
            device.ticks(50)
        self.assertEqual((device.under_way(), device.lacks(), device.given(), len(device.came())), (False, [], [], 120))
        ahead = device.tick()
        self.assertEqual((device.ticks(30), device.tick(), device.beat(), device.under_way()), ([], ahead + 30, 120, False))
        self.refused_fields(Barred, TooLate, {"found": (B, 119, 1)}, device.give, (B, 119, 1))
        self.refused_fields(Barred, Twice, {"found": (A, 119)}, device.give, (A, 119, 1))


class Told(RefusalCase):
    def setUp(self):
        self.device = Device(CODE, time=CODE.most())
        for beat in range(3):
            self.device.give((A, beat, 1))
            self.device.give((B, beat, beat))

    def test_each_letter_as_it_comes(self):
        seen = []

        def told(letter):
            seen.append((letter, self.device.tick(), self.device.beat(), self.device.under_way(), list(self.device.came()), self.device.kept()))
        came = self.device.ticks(3 * CODE.most(), told=told)
        self.assertEqual([one[0] for one in seen], came)
        for letter, tick, beat, under_way, came_then, kept in seen:
            self.assertEqual((tick, beat, under_way), (letter[3] + 1, letter[1] + 1, False))
            # When its tick is done, all letters of the tick are there.
            self.assertEqual(came_then, came[:3 * (letter[1] + 1)])
            self.assertEqual(kept, {I: (5, 6, 8)[letter[1]]})

    def test_while_ticks_go_by(self):
        seen = []

        def told(letter):
            for function, things in ((self.device.give, [(A, 3, 1)]), (self.device.give, [None]), (self.device.give, [(A, 0, 1)]),
                                     (self.device.ticks, []), (self.device.ticks, [0]), (self.device.ticks, ["x"])):
                with self.assertRaises(Busy) as caught:
                    function(*things)
                seen.append(caught.exception.found)
                self.assertIsInstance(caught.exception, Barred)
        self.device.ticks(CODE.most(), told=told)
        self.assertEqual(seen, [1] * 18)
        self.device.give((A, 3, 1))
        self.assertEqual(self.device.given()[-1], (A, 3, 1))

    def test_one_that_breaks_off(self):
        whole = self.device.twin()
        awaited = whole.ticks(3 * CODE.most())
        seen = []

        def told(letter):
            seen.append(letter)
            if len(seen) == 4:
                raise Broken(letter)
        with self.assertRaises(Broken) as caught:
            self.device.ticks(3 * CODE.most(), told=told)
        self.assertEqual(caught.exception.args, (awaited[3],))
        self.assertEqual(seen, awaited[:4])
        # The tick is done, with all its letters, and none behind it.
        self.assertEqual((self.device.came(), self.device.tick(), self.device.beat()), (awaited[:6], awaited[3][3] + 1, 2))
        self.assertIsNone(self.device.give((A, 7, 1)))
        self.assertEqual(self.device.ticks(3 * CODE.most() - self.device.tick()), awaited[6:])
        self.assertEqual((self.device.tick(), self.device.kept()), (whole.tick(), whole.kept()))

    def test_one_that_breaks_off_with_a_refusal(self):
        def told(letter):
            self.device.give(letter)
        with self.assertRaises(Busy):
            self.device.ticks(50, told=told)
        self.assertEqual(len(self.device.came()), 3)
        self.assertEqual(self.device.ticks(0), [])

    def test_a_twin_is_always_open(self):
        twins = []

        def told(letter):
            twin = self.device.twin()
            self.assertEqual((twin.tick(), twin.came(), twin.beat(), twin.kept()), (self.device.tick(), self.device.came(), self.device.beat(), self.device.kept()))
            twin.give((A, 5, 1))
            twin.ticks(2, told=lambda letter: None)
            twins.append(twin)
        self.device.ticks(CODE.most(), told=told)
        self.assertEqual(len(twins), 3)
        self.assertNotIn((A, 5, 1), self.device.given())

    def test_none_is_told_nothing(self):
        self.assertEqual(len(self.device.ticks(CODE.most(), told=None)), 3)


class Twins(RefusalCase):
    def test_at_each_tick(self):
        device = Device(CODE, time=CODE.most())
        device.give((B, 1, 4))
        for beat in range(3):
            device.give((A, beat, beat % 2))
        twins = []
        for _ in range(3 * CODE.most()):
            twins.append(device.twin())
            device.ticks()
        for twin in twins:
            self.assertIs(twin.__class__, Device)
            twin.ticks(3 * CODE.most() - twin.tick())
            self.assertEqual((twin.came(), twin.kept(), twin.beat(), twin.under_way(), twin.given(), twin.late()),
                             (device.came(), device.kept(), device.beat(), device.under_way(), device.given(), device.late()))
            with self.assertRaises(Twice):
                twin.give((A, 1, 1))

    def test_apart(self):
        device = Device(CODE)
        twin = device.twin()
        twin.give((A, 0, 0))
        twin.ticks(70)
        self.assertEqual((device.given(), device.came(), device.tick(), device.beat(), device.late()), ([], [], 0, 0, []))
        device.give((A, 0, 1))
        self.assertEqual(device.given(), [(A, 0, 1)])

    def test_told_lists_and_dicts_are_new(self):
        device = Device(CODE)
        device.ticks(3)
        device.give((A, 0, 0))
        device.give((A, 1, 0))
        device.give((B, 3, 1))
        device.ticks(50).clear()
        for tell in (device.given, device.came, device.late, device.kept):
            ahead = tell().copy()
            self.assertTrue(ahead)
            tell().clear()
            self.assertEqual(tell(), ahead)
        device.ticks(50)
        lacking = device.lacks()
        self.assertEqual(lacking, [A])
        lacking.clear()
        self.assertEqual(device.lacks(), [A])


class Beside(RefusalCase):
    def test_letters_ahead_of_time_just_in_time_and_late(self):
        for seed in range(300):
            chance = random.Random(seed)
            flat = some_flat(seed)
            code = Code(flat)
            run, told, letters = CodeRun(code), [], []
            for beat in range(4):
                worths = {name: chance.randrange(2 ** width) for name, width, _ in flat.ins()}
                needed = wanted_ins(flat, worths)
                told.append(run.beat({name: worths[name] for name in needed}))
                letters.extend((name, beat, worths[name]) for name in worths if name in needed or chance.random() < 0.5)
            chance.shuffle(letters)
            # The device goes on but where it is told to: no beat behind the fourth is to begin.
            device = Device(code, time=max(code.most(), 1) + chance.randint(0, 3))
            while device.beat() < 4:
                if letters and chance.random() < 0.4:
                    self.give_unless_late(device, letters.pop(), flat)
                if chance.random() < 0.1:
                    device = device.twin()
                device.ticks()
            self.same(device, told, run, seed)

    def give_unless_late(self, device, letter, flat):
        try:
            device.give(letter)
        except TooLate:
            # Just those that no beat needs may have been left until it had begun.
            self.assertLess(letter[1], device.beat() + 1)
            self.assertNotEqual(flat.clock(letter[0]), ())

    def same(self, device, told, run, seed):
        came = [{} for _ in range(4)]
        ticks = []
        for name, beat, worth, tick in device.came():
            came[beat][name] = worth
            ticks.append((beat, tick))
        self.assertEqual([list(one.items()) for one in came], [list(one.items()) for one in told], seed)
        self.assertEqual(ticks, sorted(ticks))
        self.assertEqual(list(device.kept().items()), list(run.kept().items()))


if __name__ == "__main__":
    import unittest
    unittest.main()
