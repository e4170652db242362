"""Promises 123 and 124: a desk, its rows, answers and refusals."""

import random

from beatflows.desk import Desk
from beatflows.edits import Live
from beatflows.errors import Bare, Barred, FlowError, Missing, NoIns, NoLine, NoNodes, NoNumber, NoOut, NoRow, NotThere, Over, Ringed, TooMany, Unfit
from beatflows.opening import opened
from beatflows.programs import Program
from beatflows.sayings import saying
from beatflows.steps import Code
from beatflows.terms import flows_of
from beatflows.texts import read, written
from beatflows.wires import Net
from tests.chance import some_ins, some_program
from tests.helper import RefusalCase, any_things
from tests.test_traces import BARE, RINGED, too_many

# Counts up by `a`; tells a row where `t` has 1, and whether it is under 9.
ROWS = ["node main", "in a 4 -", "in t 1 -", "in r 2x3 t:1", "out s 4 - 0", "out p 2x3 t:1 -", "out ok 1 - -", "flow k 3 - 5",
        "let s = (add (last s) (name a))", "let p = (name r)", "let ok = (less (last s) (lit 4 9))", "let k = (last k)", "main main"]

TEXT = ";".join(ROWS)

DOWN = TEXT.replace("(add (last s)", "(sub (last s)")

NO_LINES = [
    "", " ", "zzz", "Beats", "beats ", " beats", "beats 1", "beats\n", "kept ", "kept kept", "flat x", "flat ", "steps x", "steps ", "wires x", "wires ", "text x", "text ", "text\n",
    "what", "what ", "what  s", "what s ", "what s s", "what S", "what a.b", "what 1", "what abcdefghi", "what s\n", "holds", "holds ", "holds  ok", "holds ok ", "holds OK", "holds ok ok", "holds 1",
    "beat ", "beat  a=1", "beat a=1 ", "beat a=1  t=0", "beat a", "beat a=", "beat =1", "beat a=x", "beat a=01", "beat a=-1", "beat a=+1", "beat a=1=1", "beat A=1", "beat a=1,", "beat a=,1",
    "beat a=1,,2", "beat a=1, 2", "beat a =1", "beat a=1 a=1", "beat a=1 t=0 a=2", "beat a=1\nt=0", "beat a=1;t=0", "beat a=1\n", "beat a.b=1", "beat abcdefghi=1", "beat a=(1)", "beat a=-", "beat a=" + "1" * 31,
    "beat a=" + "1" * 5000, "back", "back ", "back x", "back 01", "back -1", "back 1 ", "back 1 1", "back  1", "back +1", "back 1\n", "back True",
    "edit", "edit ", "edit 1", "edit x " + TEXT, "edit 01 " + TEXT, "edit -1 " + TEXT, "edit  1 " + TEXT, "edit " + TEXT, "edit 1\n" + TEXT, "edit True " + TEXT,
    "program", "Program " + TEXT, " program " + TEXT, "program\n" + TEXT, "program;" + TEXT, "programs " + TEXT,
]


class DeskCase(RefusalCase):
    def setUp(self):
        self.desk = Desk()

    def told(self, *rows):
        return [self.desk.say(row) for row in rows]


class Rows(DeskCase):
    def test_all_rows(self):
        told = self.told("program " + TEXT, "beats", "what s", "beat a=3 t=0", "beat a=4 t=1 r=5,6", "beats", "what s", "what p", "what r", "what k", "what a", "kept", "text")
        self.assertEqual(told, ["ok", "0", "silent", "s=3 ok=1", "s=7 p=5,6 ok=1", "2", "7", "5,6", "5,6", "5", "4", "2", TEXT])
        self.assertEqual(self.told("beat a=2 t=0", "what p", "what ok", "beat a=0 t=0", "what ok"), ["s=9 ok=1", "silent", "1", "s=9 ok=0", "0"])
        for one in told:
            self.assertIs(one.__class__, str)

    def test_what_is_told_of_the_program(self):
        self.desk.say(row="program " + TEXT)
        flat = opened(read("\n".join(ROWS)))
        code, net = Code(flat), Net(flat)
        awaited = [f"{len(flat.ins()) + len(flat.rows())} {len(flat.cells())}", f"{len(code)} {code.room()} {code.most()}", f"{len(net)} {net.deep()}"]
        self.assertEqual(self.told("flat", "steps", "wires"), awaited)

    def test_holds_and_falls(self):
        text = TEXT.replace("2x3", "2x1")
        self.desk.say("program " + text)
        told = saying(read(text.replace(";", "\n")), "ok")
        self.assertEqual(told[0], "falls")
        self.assertEqual(self.desk.say("holds ok"), f"falls {len(told[1])}")
        self.desk.say("program " + text.replace("(less (last s) (lit 4 9))", "(same (last s) (last s))"))
        self.assertEqual(self.desk.say("holds ok"), "holds 16")
        # Of the program, not of the run: what was done counts for nothing.
        self.desk.say("beat a=9 t=0")
        self.assertEqual(self.desk.say("holds ok"), "holds 16")

    def test_200_memories_at_most(self):
        text = "program node main;out ok 1 - -;flow k 8 - 0;let k = (pick (same (last k) (lit 8 {})) (lit 8 0) (add (last k) (lit 8 1)));let ok = (lit 1 1);main main"
        self.assertEqual(self.told(text.format(199), "holds ok"), ["ok", "holds 200"])
        self.desk.say(text.format(200))
        self.refused_fields(Barred, TooMany, {"many": 201}, self.desk.say, "holds ok")

    def test_silent_and_no_ins(self):
        self.assertEqual(self.told("program node main;in t 1 -;out x 1 t:1 -;let x = (when (lit 1 1) t 1);main main", "beat t=0", "beat t=1"), ["ok", "silent", "x=1"])
        self.assertEqual(self.told("program node main;out x 1 - -;let x = (lit 1 1);main main", "beat", "beat", "beats"), ["ok", "x=1", "x=1", "2"])

    def test_texts(self):
        for text in (TEXT.replace(";", "\n"), TEXT.replace(";", " ; ;\n"), "  " + TEXT.replace(" ", "  ") + ";;", ";" + TEXT + " "):
            self.assertEqual(self.told("program " + text, "text"), ["ok", TEXT])
            self.assertEqual(self.told("edit 0 " + text, "beat a=1 t=0"), ["ok", "s=1 ok=1"])

    def test_edits(self):
        told = self.told("program " + TEXT, "beat a=3 t=0", "edit 2 " + DOWN, "text", "beat a=3 t=0", "text", "beat a=1 t=0", "text", "what s", "kept")
        self.assertEqual(told, ["ok", "s=3 ok=1", "ok", TEXT, "s=6 ok=1", TEXT, "s=5 ok=1", DOWN, "5", "2"])
        self.assertEqual(self.told("edit 3 " + TEXT, "edit 5 " + DOWN, "back 5", "beat a=1 t=0", "text"), ["ok", "ok", "ok", "s=6 ok=1", TEXT])
        self.refused_fields(Missing, NotThere, {"found": 5}, self.desk.say, "back 5")
        # The sizes are of the program as it runs.
        more = DOWN.replace("flow k 3 - 5", "flow k 3 - 5;flow m 8 - 0").replace("let k =", "let m = (last m);let k =")
        flat = self.desk.say("flat")
        self.assertEqual(self.told("edit 4 " + more, "flat", "kept"), ["ok", flat, "2"])
        self.desk.say("beat a=0 t=0")
        self.assertEqual((self.desk.say("kept"), self.desk.say("flat") == flat), ("3", False))

    def test_a_program_told_anew_runs_from_its_begin(self):
        self.told("program " + TEXT, "beat a=3 t=0", "edit 4 " + DOWN)
        self.assertEqual(self.told("program " + TEXT, "beats", "what s", "beat a=1 t=0"), ["ok", "0", "silent", "s=1 ok=1"])
        self.refused_fields(Missing, NotThere, {"found": 4}, self.desk.say, "back 4")


class Refused(DeskCase):
    def test_rows_that_are_no_lines(self):
        for thing in NO_LINES + any_things():
            self.refused(FlowError, NoLine, thing, self.desk.say, thing)
        self.desk.say("program " + TEXT)
        self.desk.say("beat a=3 t=0")
        for thing in NO_LINES + any_things():
            self.refused(FlowError, NoLine, thing, self.desk.say, thing)
        self.assertEqual(self.told("beats", "what s", "text"), ["1", "3", TEXT])

    def test_ahead_of_any_program(self):
        for row in ["beat", "beat a=3 t=0", "beats", "what s", "kept", "flat", "steps", "wires", "holds ok", "text", "back 1", "edit 0 " + TEXT, "edit 0 "]:
            self.refused(FlowError, NoLine, row, self.desk.say, row)
        # One that is refused is none.
        self.assertRaises(NoRow, self.desk.say, "program ")
        self.assertRaises(Ringed, self.desk.say, "program " + written(Program([RINGED])).replace("\n", ";"))
        self.refused(FlowError, NoLine, "beats", self.desk.say, "beats")

    def test_texts(self):
        self.desk.say("program " + TEXT)
        for word in ("program", "edit 0", "edit 999"):
            for text, at in (("", 1), (" ", 1), (";", 2), ("\n;", 3), ("zzz", 0), (TEXT + ";x", len(ROWS)), (";;" + TEXT.replace("in t", "in T"), 4), (";".join(ROWS[:-1]), len(ROWS) - 1)):
                self.refused_fields(FlowError, NoRow, {"at": at}, self.desk.say, f"{word} {text}")
            self.refused_fields(Missing, NotThere, {"found": "far"}, self.desk.say, f"{word} {TEXT[:-4]}far")
            unfit = {"where": "main", "at": 0, "why": "unknown", "found": "b"}
            self.refused_fields(FlowError, Unfit, unfit, self.desk.say, f"{word} {TEXT.replace('(name a)', '(name b)')}")
            self.assertRaises(NoNodes, self.desk.say, f"{word} " + ";".join(ROWS[:-1] * 11 + ROWS[-1:]))
            self.refused_fields(FlowError, Ringed, {"where": "ringed", "ring": ["x"]}, self.desk.say, f"{word} " + written(Program([RINGED])).replace("\n", ";"))
            self.refused_fields(FlowError, Bare, {"where": "bare", "at": 0, "found": "x"}, self.desk.say, f"{word} " + written(Program([BARE])).replace("\n", ";"))
        self.assertEqual(self.told("beats", "text"), ["0", TEXT])

    def test_as_the_stages_refuse(self):
        self.told("program " + TEXT, "beat a=3 t=0")
        for row, found in (("beat", {}), ("beat a=1", {"a": 1}), ("beat a=16 t=0", {"a": 16, "t": 0}), ("beat a=1 t=0 r=1,2", {"a": 1, "t": 0, "r": (1, 2)}), ("beat a=1 t=1 r=1", {"a": 1, "t": 1, "r": 1}),
                           ("beat a=1 t=1 r=1,2,3,4,5,6", {"a": 1, "t": 1, "r": (1, 2, 3, 4, 5, 6)}), ("beat a=1,1 t=0", {"a": (1, 1), "t": 0}), ("beat a=" + "9" * 30 + " t=0", {"a": 10 ** 30 - 1, "t": 0}),
                           ("beat " + " ".join("abcdefghijklmnop"[at] + "=1" for at in range(16)), {one: 1 for one in "abcdefghijklmnop"})):
            self.refused_fields(FlowError, NoIns, {"found": found}, self.desk.say, row)
        for name in ("z", "main", "sss"):
            self.refused_fields(Missing, NotThere, {"found": ((), name)}, self.desk.say, "what " + name)
        for name in ("z", "s", "p", "k", "t"):
            self.refused_fields(Missing, NoOut, {"found": name}, self.desk.say, "holds " + name)
        for beat in (0, 1, 119, 120, 10 ** 29):
            self.refused_fields(Missing, NotThere, {"found": beat}, self.desk.say, f"back {beat}")
        for beat in (120, 10 ** 29):
            self.refused_fields(FlowError, NoNumber, {"found": beat}, self.desk.say, f"edit {beat} {TEXT}")
        self.refused_fields(Barred, Over, {"found": 0}, self.desk.say, f"edit 0 {TEXT}")
        far = TEXT.replace("in a 4 -", "in b 4 -").replace("(name a)", "(name b)")
        self.refused_fields(FlowError, Unfit, {"where": "main", "at": -1, "why": "ins", "found": "b"}, self.desk.say, f"edit 0 {far}")
        # The text goes ahead of the beat.
        self.refused_fields(FlowError, NoRow, {"at": 0}, self.desk.say, f"edit {10 ** 29} zzz")
        self.assertEqual(self.told("beats", "what s", "text"), ["1", "3", TEXT])

    def test_over(self):
        self.desk.say("program node main;out x 1 - -;let x = (lit 1 1);main main")
        for _ in range(120):
            self.desk.say("beat")
        self.refused_fields(Barred, Over, {"found": 120}, self.desk.say, "beat")
        self.assertEqual(self.desk.say("beats"), "120")

    def test_too_much_to_be_opened_up(self):
        self.desk.say("program " + written(too_many()).replace("\n", ";"))
        for row in ("flat", "steps", "wires", "holds y"):
            with self.assertRaises(TooMany) as caught:
                self.desk.say(row)
            self.assertGreater(caught.exception.many, 400)
        self.assertEqual(self.told("beat x=3", "what z", "kept"), ["y=3", "3,3,3,3", "0"])

    def test_too_many_ins(self):
        self.told("program node main;in a 8 -;in t 1 -;out x 1 - -;let x = (lit 1 1);main main")
        self.refused_fields(Barred, TooMany, {"many": 257}, self.desk.say, "holds x")


class Beside(DeskCase):
    def test_a_live_beside(self):
        asked = ["beats", "kept", "text", "flat", "what zz", "beat zz=1", "edit 0 zzz", "program zzz", "zzz", "back 77", "holds zz"]
        for seed in range(60):
            told = some_program(seed)
            chance = random.Random(seed)
            live, desk, quiet = Live(told), Desk(), Desk()
            text = written(told).replace("\n", ";")
            self.assertEqual((desk.say("program " + text), quiet.say("program " + text)), ("ok", "ok"))
            for _ in range(5):
                for row in chance.sample(asked, 3):
                    # Those that are refused, and those that ask, change nothing.
                    try:
                        desk.say(row)
                    except (FlowError, Missing, Barred):
                        pass
                if chance.random() < 0.3:
                    at = chance.randint(live.beats(), 6)
                    live.edit(told, at=at)
                    self.assertEqual((desk.say(f"edit {at} {text}"), quiet.say(f"edit {at} {text}")), ("ok", "ok"))
                ins = some_ins(told, chance)
                row = " ".join(["beat"] + [f"{name}={self.worth(ins[name])}" for name in ins])
                outs = live.beat(ins)
                awaited = " ".join(f"{name}={self.worth(outs[name])}" for name in outs) or "silent"
                self.assertEqual((desk.say(row), quiet.say(row)), (awaited, awaited))
                for name in flows_of(told.node(told.main())):
                    worth = live.worth((), name)
                    self.assertEqual(desk.say("what " + name), "silent" if worth is None else self.worth(worth))
            self.assertEqual((desk.say("beats"), desk.say("kept"), desk.say("text")), (str(live.beats()), str(len(live.kept())), text))

    def worth(self, worth):
        return ",".join(str(one) for one in worth) if isinstance(worth, tuple) else str(worth)

    def test_two_desks_have_nothing_in_common(self):
        other = Desk()
        self.desk.say("program " + TEXT)
        self.refused(FlowError, NoLine, "beats", other.say, "beats")
        other.say("program " + DOWN)
        self.assertEqual((self.desk.say("beat a=1 t=0"), other.say("beat a=1 t=0")), ("s=1 ok=1", "s=15 ok=1"))
        self.assertEqual((self.desk.say("text"), other.say("text")), (TEXT, DOWN))


if __name__ == "__main__":
    import unittest
    unittest.main()
