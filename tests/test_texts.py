"""Promises 121 and 122: programs and terms, written and read."""

from beatflows.errors import FlowError, Missing, NoNodes, NoProgram, NoRow, NoTerm, NoText, NotThere, Unfit
from beatflows.opening import opened
from beatflows.programs import Program
from beatflows.terms import parts_of
from beatflows.texts import read, read_term, term_text, written
from tests.chance import some_program
from tests.helper import SMALL, RefusalCase, any_things
from tests.nodes import PLUS, TWICE, block, last, let, lit, n, node, state
from tests.test_traces import BARE, RINGED

# A program with all forms of terms, right sides, clocks, kinds, firsts, blocks and ways.
ALL = Program([
    ("lib.plus", *PLUS[1:]),
    TWICE,
    node("two", [], [("x", 8), ("y", (2, 3))], [], let("x", lit(8, 255)), let("y", lit((2, 3), (7, 0)))),
    node(
        "main",
        [("a", 4), ("t", 1), ("u", 1, (("t", 1),)), ("r", (3, 4)), ("w", 4, (("t", 1), ("u", 0)))],
        [("x", 4), ("y", (2, 3), (), (1, 2)), ("z", 4, (("t", 1),), 15), ("v", 1, (), 0)],
        [("f", 8), ("g", (2, 3), (), None), ("h", (3, 4)), ("i", 4), ("k", (2, 4)), ("m", 1), ("o", 2, (), 3), ("q", 4, (), 0), ("e", 4, (("t", 1), ("u", 0)), 0)],
        let("x", ("pick", n("t"), ("add", n("a"), last("q")), ("sub", n("a"), ("not", n("a"))))),
        let("z", ("when", ("first", lit(4, 0), n("a")), "t", 1)),
        let("f g", ("call", "two", (), None)),
        block(
            state("p", [let("v", ("less", n("a"), n("x"))), let("q", n("a"))], [(("same", n("a"), lit(4, 3)), "s", 1), (n("t"), "p", 0)], [(n("m"), "s", 0), (lit(1, 1), "p", 1)]),
            state("s", [let("v", ("bit", 3, n("a"))), let("q", ("call", "twice", (n("a"),), None))]),
        ),
        let("h", ("map", "lib.plus", (n("r"), n("r")), "t")),
        let("i", ("fold", "lib.plus", n("a"), (n("r"),), None)),
        let("k", ("pairs", "lib.plus", n("r"), "t")),
        let("m", ("xor", ("and", n("t"), n("v")), ("or", n("t"), lit(1, 0)))),
        let("o", ("wide", 2, ("at", 2, n("r")))),
        let("y", ("row", (("wide", 3, n("a")), ("at", 1, n("g"))))),
        let("e", ("add", n("w"), n("w"))),
    ),
    node("over", [("t", 1)], [("b", 4)], [], let("b", ("merge", "t", lit(4, 1), lit(4, 2)))),
], main="main")

TEXT = """node lib.plus
in a 4 -
in b 4 -
out c 4 - -
let c = (add (name a) (name b))
node twice
in a 4 -
out b 4 - -
let b = (add (name a) (name a))
node two
out x 8 - -
out y 2x3 - -
let x = (lit 8 255)
let y = (lit 2x3 7,0)
node main
in a 4 -
in t 1 -
in u 1 t:1
in r 3x4 -
in w 4 t:1,u:0
out x 4 - -
out y 2x3 - 1,2
out z 4 t:1 15
out v 1 - 0
flow f 8 - -
flow g 2x3 - -
flow h 3x4 - -
flow i 4 - -
flow k 2x4 - -
flow m 1 - -
flow o 2 - 3
flow q 4 - 0
flow e 4 t:1,u:0 0
let x = (pick (name t) (add (name a) (last q)) (sub (name a) (not (name a))))
let z = (when (first (lit 4 0) (name a)) t 1)
let f g = (call two () -)
states
state p
let v = (less (name a) (name x))
let q = (name a)
strong (same (name a) (lit 4 3)) s now
strong (name t) p on
weak (name m) s on
weak (lit 1 1) p now
state s
let v = (bit 3 (name a))
let q = (call twice ((name a)) -)
end
let h = (map lib.plus ((name r) (name r)) t)
let i = (fold lib.plus (name a) ((name r)) -)
let k = (pairs lib.plus (name r) t)
let m = (xor (and (name t) (name v)) (or (name t) (lit 1 0)))
let o = (wide 2 (at 2 (name r)))
let y = (row (wide 3 (name a)) (at 1 (name g)))
let e = (add (name w) (name w))
node over
in t 1 -
out b 4 - -
let b = (merge t (lit 4 1) (lit 4 2))
main main"""


class TextCase(RefusalCase):
    def no_row(self, at, text):
        self.refused_fields(FlowError, NoRow, {"at": at}, read, text)


class Programs(TextCase):
    def test_word_for_word(self):
        self.assertEqual(written(program=ALL), TEXT)
        self.assertEqual(read(text=TEXT), ALL)
        self.assertEqual(read(TEXT).nodes(), ALL.nodes())

    def test_what_is_written_is_read_as_it_was(self):
        for seed in range(200):
            told = some_program(seed)
            text = written(told)
            self.assertEqual(read(text), told)
            self.assertEqual(written(read(text)), text)
        for one in (Program([SMALL]), Program([TWICE, SMALL], main="twice"), Program([RINGED]), Program([BARE])):
            self.assertEqual(read(written(one)), one)

    def test_blanks_and_rows_without_other_signs(self):
        for text in (TEXT.replace("\n", "\n\n"), TEXT.replace("\n", "  \n   "), "\n \n" + TEXT + "\n  \n", TEXT.replace(" ", "   "), "  " + TEXT.replace("\n", " \n    \n ") + "   "):
            self.assertEqual(read(text), ALL)

    def test_refusals_of_written(self):
        for thing in any_things() + [TEXT, opened(Program([SMALL]))]:
            if not isinstance(thing, Program):
                self.refused(FlowError, NoProgram, thing, written, thing)

    def test_what_is_no_text(self):
        for thing in any_things() + [b"node", [TEXT]]:
            if not isinstance(thing, str):
                self.refused(FlowError, NoText, thing, read, thing)


HEAD = ["node n", "in a 4 -", "in t 1 -", "out x 4 - -", "out y 4 t:1 3", "flow f 4 - -"]
LETS = ["let x = (name a)", "let y = (when (name a) t 1)", "let f = (name a)"]
WHOLE = [*HEAD, *LETS, "main n"]
BLOCK = ["states", "state p", "let f = (name a)", "strong (name t) q on", "weak (name t) p now", "state q", "let f = (last f)", "end"]
BLOCKED = [*HEAD, *LETS[:2], *BLOCK, "main n"]


class Rows(TextCase):
    def text_with(self, rows, at, *row):
        """The rows with others put in the place of one."""
        return "\n".join([*rows[:at], *row, *rows[at + 1:]])

    def refused_in(self, rows, at, *bad):
        """Each of these rows, in the place of that one, is the first that isn't right."""
        for row in bad:
            self.no_row(at, self.text_with(rows, at, row))

    def test_the_whole_ones_are_read(self):
        self.assertEqual(len(read("\n".join(WHOLE))), 1)
        self.assertEqual(len(read("\n".join(BLOCKED))), 1)

    def test_any_row_but_node_ahead_of_all_nodes(self):
        for row in [*HEAD[1:], *LETS, *BLOCK, "main n", "zzz", "(name a)", "-"]:
            self.no_row(0, row)
            self.no_row(2, "\n  \n" + row)
            self.no_row(0, row + "\n" + "\n".join(WHOLE))

    def test_any_row_behind_main(self):
        for row in [*HEAD, *LETS, *BLOCK, "main n", "zzz"]:
            self.no_row(len(WHOLE), "\n".join([*WHOLE, row]))
            self.no_row(len(WHOLE) + 2, "\n".join([*WHOLE, "", " ", row, "node"]))
        self.assertEqual(len(read("\n".join([*WHOLE, "", "  "]))), 1)

    def test_main_that_lacks(self):
        self.no_row(1, "")
        self.no_row(1, "   ")
        self.no_row(3, "\n\n")
        self.no_row(len(WHOLE) - 1, "\n".join(WHOLE[:-1]))
        self.no_row(len(WHOLE), "\n".join(WHOLE[:-1]) + "\n")
        self.no_row(1, "node n")
        self.no_row(8, "\n".join(BLOCKED[:8]))
        self.no_row(10, "\n".join(BLOCKED[:10]))

    def test_names(self):
        for at, word in ((0, "node"), (len(WHOLE) - 1, "main")):
            self.refused_in(WHOLE, at, word, word + " N", word + " n n", word + " a.b.c", word + " .n", word + " abcdefghi", word + " n-", word + " (name n)", word + " ()", word.upper() + " n",
                            word + "n", word + " 1", word + "\tn", word + " n;")
        self.assertEqual(read("\n".join(["node m.n", *WHOLE[1:-1], "main m.n"])).main(), "m.n")

    def test_flows(self):
        for at, word, more in ((1, "in", ""), (3, "out", " -"), (5, "flow", " -")):
            for kind in ("0", "9", "04", "+4", "-4", "4x", "x4", "1x4", "5x4", "2x9", "2x0", "02x4", "2x4x1", "2,4", "(4)", "w", "-", "4.", "1" * 31):
                self.refused_in(WHOLE, at, f"{word} z {kind} -{more}")
            for clock in ("t", "t:2", "t:", ":1", "t:01", "t:1,", ",t:1", "t:1,t:0", "a:1,b:1,c:1,d:1", "t:1:1", "t=1", "T:1", "t: 1", "()", "--", "t:-1"):
                self.refused_in(WHOLE, at, f"{word} z 4 {clock}{more}")
            for rest in ("", " z", " z 4", " z 4 - - -", " Z 4 -" + more, " (name z) 4 -" + more, " zzzzzzzzz 4 -" + more):
                self.refused_in(WHOLE, at, word + rest)
        self.refused_in(WHOLE, 1, "in z 4 - -", "in z 4 - 3")
        for word, at in (("out", 3), ("flow", 5)):
            self.refused_in(WHOLE, at, f"{word} z 4 -", f"{word} z 4 - 16", f"{word} z 4 - 03", f"{word} z 4 - 1,2", f"{word} z 2x4 - 1", f"{word} z 2x4 - 1,2,3", f"{word} z 2x4 - 1,", f"{word} z 2x4 - 1,16",
                            f"{word} z 4 - x", f"{word} z 4 - +1", f"{word} z 4 - --", f"{word} z 4 - (lit 4 1)", f"{word} z 4 - " + "1" * 4500)

    def test_places_of_flows(self):
        self.refused_in(WHOLE, 4, "in z 4 -")
        self.refused_in(WHOLE, 6, "in z 4 -", "out z 4 - -")
        self.no_row(7, self.text_with(WHOLE, 6, WHOLE[6], "in z 4 -"))
        self.no_row(7, self.text_with(WHOLE, 6, WHOLE[6], "out z 4 - -"))
        self.no_row(7, self.text_with(WHOLE, 6, WHOLE[6], "flow z 4 - -"))
        # Behind a block, and within one.
        end = BLOCKED.index("end")
        for row in ("in z 4 -", "out z 4 - -", "flow z 4 - -"):
            self.no_row(end + 1, self.text_with(BLOCKED, end, "end", row))
            for at in range(9, end + 1):
                self.no_row(at, self.text_with(BLOCKED, at, row))

    def test_ahead_of_all_outs(self):
        for row in ("flow f 4 - -", "let x = (name a)", "states", "main n", "node m"):
            self.no_row(2, "\n".join(["node n", "in a 4 -", row]))
            self.no_row(1, "\n".join(["node n", row]))

    def test_a_node_without_lets(self):
        for row in ("node m", "main n"):
            self.refused_in(WHOLE, 6, row)
            self.no_row(7, self.text_with(WHOLE, 6, "", row))

    def test_lets(self):
        self.refused_in(WHOLE, 6, "let", "let x", "let x =", "let = (name a)", "let x (name a)", "let x = a", "let x = name a", "let x = (name a) (name a)", "let x = (name a) b", "let x = ()",
                        "let X = (name a)", "let x= (name a)", "let x =(name a)", "let x == (name a)", "let a b c d e = (name a)", "let (name a) = (name a)", "let x = y = (name a)", "x = (name a)",
                        "let x = ((name a))", "let x = (name a", "let x = name a)", "let x = (name a))", "let x = ((name a)")
        # Of four names, though they don't fit: as a program refuses.
        self.refused_fields(FlowError, Unfit, {"where": "n", "at": 0, "why": "unknown", "found": "b"}, read, self.text_with(WHOLE, 6, "let x b c d = (name a)"))

    def test_right_sides(self):
        for right in ("(name)", "(name a b)", "(name A)", "(name 1)", "(name (name a))", "( name a)", "(name a )", "(name  a", "(Name a)", "(nome a)", "(add (name a))", "(add (name a)(name a))",
                      "(add (name a) (name a) (name a))", "(add a a)", "(not (call twice ((name a)) -))", "(lit 4)", "(lit 4 16)", "(lit 4 04)", "(lit 04 4)", "(lit 2x4 3)", "(lit 4 3,5)", "(lit 2x4 3,)",
                      "(lit 2x4 3, 5)", "(lit 4 -)", "(lit 4 (lit 4 1))", "(lit 4 " + "9" * 5000 + ")", "(wide 9 (name a))", "(wide (name a) 4)", "(bit 8 (name a))", "(at 4 (name a))", "(at -1 (name a))",
                      "(when (name a) t 2)", "(when t (name a) 1)", "(when (name a) t)", "(merge (name a) t (name a))", "(merge t (name a))", "(row (name a))", "(row)", "(row ((name a) (name a)))",
                      "(row (name a) (name a) (name a) (name a) (name a))", "(call twice (name a) -)", "(call twice ((name a)))", "(call twice () )", "(call twice ( ) -)", "(call twice ((name a)) T)",
                      "(call twice ((name a)) - -)", "(call a.b.c () -)", "(call Twice () -)", "(call twice ((name a) a) -)", "(call twice ((name a) ()) -)", "(call twice (call) -)", "(call () () -)",
                      "(map twice () -)", "(map twice ((name a) (name a) (name a) (name a) (name a)) -)", "(fold twice ((name a)) -)", "(fold twice (name a) (name a) -)", "(fold twice (name a) () -)",
                      "(pairs twice ((name a)) -)", "(pairs twice (name a))", "(call twice ((call twice ((name a)) -)) -)", "(call x (" + "(name a) " * 6 + "(name a)) -)", "()", "(())", ")(", "(", ")", "((name a))",
                      "(name a)x", "x(name a)", "(pick (name t) (name a))", "(first (name a))", "(last (name a))", "(call twice ((name a)) (name t))", "(lit 4 1)(", "(- a)", "(let a)"):
            self.refused_in(WHOLE, 6, "let x = " + right)
        for right in ("(" * 3000, "(not " * 1000, "(not " * 900 + "(zz)" + ")" * 900, "(" * 1500 + ")" * 1500, ")" * 5000, "(name a" + ")" * 900):
            self.refused_in(WHOLE, 6, "let x = " + right)

    def test_blocks(self):
        first = BLOCKED.index("states")
        for at, rows in (
            (first, ["states x", "states -", "state p", "strong (name t) p on", "weak (name t) p on", "end", "end end", "States"]),
            (first + 1, ["states", "state", "state P", "state p q", "state p.q", "let f = (name a)", "strong (name t) p on", "weak (name t) p on", "end", "node m", "main n"]),
            (first + 2, ["strong (name t) p on", "weak (name t) p on", "state q", "end", "states", "node m", "main n"]),
            (first + 3, ["strong (name t) q", "strong (name t) q on on", "strong (name t) q ON", "strong (name t) q 1", "strong t q on", "strong q (name t) on", "strong (name t) Q on",
                         "strong (call twice ((name a)) -) q on", "strong (name t) q (name a)", "strong ((name t)) q on", "strong", "weak (name t) q -", "weak", "states", "node m", "main n"]),
            (first + 4, ["let f = (name a)", "states"]),
            (first + 5, ["strong (name t) p on", "let f = (name a)"]),
            (first + 7, ["end x", "END", "main n", "node m"]),
        ):
            self.refused_in(BLOCKED, at, *rows)

    def test_a_block_ahead_of_all_lets(self):
        rows = [*HEAD, *BLOCK, *LETS[:2], "main n"]
        self.assertEqual(len(read("\n".join(rows))), 1)
        for at in range(7, 14):
            for row in ("in z 4 -", "out z 4 - -", "flow z 4 - -", "states", "main n", "node m"):
                self.refused_in(rows, at, row)

    def test_a_let_behind_ways(self):
        for way in ("strong (name t) p on", "weak (name t) p on"):
            rows = [*HEAD, "states", "state p", "let f = (name a)", way, "let x = (name a)", "end", *LETS[:2], "main n"]
            self.no_row(10, "\n".join(rows))

    def test_many_states_and_ways(self):
        def made(states, strong, weak):
            ways = ["strong (name t) p on"] * strong + ["weak (name t) p on"] * weak
            rows = ["states", "state p", "let f = (name a)", *ways]
            for name in "qrs"[:states - 1]:
                rows += ["state " + name, "let f = (name a)"]
            return [*HEAD, *LETS[:2], *rows]
        for states, strong, weak in ((4, 4, 4), (1, 0, 0)):
            self.assertEqual(len(read("\n".join([*made(states, strong, weak), "end", "main n"]))), 1)
        rows = made(4, 0, 0)
        self.no_row(len(rows), "\n".join([*rows, "state x", "let f = (name a)", "end", "main n"]))
        rows = made(1, 4, 0)
        self.no_row(len(rows), "\n".join([*rows, "strong (name t) p on", "end", "main n"]))
        rows = made(1, 4, 4)
        self.no_row(len(rows), "\n".join([*rows, "weak (name t) p on", "end", "main n"]))
        rows = made(1, 0, 0)
        self.no_row(len(rows), "\n".join([*rows, "main n"]))

    def test_the_first_of_two_goes(self):
        rows = list(WHOLE)
        rows[3], rows[7] = "zzz", "let"
        self.no_row(3, "\n".join(rows))
        rows[3] = WHOLE[3]
        self.no_row(7, "\n".join(rows))
        rows[7], rows[-1] = WHOLE[7], ""
        self.no_row(len(WHOLE), "\n".join(rows))
        # Rows without signs are counted.
        self.no_row(5, "\n\n" + "\n".join(["node n", "", " ", "zzz"]))

    def test_then_as_a_program(self):
        self.refused_fields(Missing, NotThere, {"found": "m"}, read, "\n".join([*WHOLE[:-1], "main m"]))
        with self.assertRaises(NoNodes) as caught:
            read("\n".join(WHOLE[:-1] * 11 + ["main n"]))
        self.assertEqual(len(caught.exception.found), 11)
        self.refused_fields(FlowError, Unfit, {"where": "n", "at": -1, "why": "twice", "found": "n"}, read, "\n".join(WHOLE[:-1] * 2 + ["main n"]))
        self.refused_fields(FlowError, Unfit, {"where": "n", "at": 0, "why": "unknown", "found": "z"}, read, self.text_with(WHOLE, 6, "let x = (name z)"))
        self.refused_fields(FlowError, Unfit, {"where": "n", "at": -1, "why": "twice", "found": "p"}, read, "\n".join(BLOCKED).replace("state q", "state p").replace(" q on", " p on"))


class Terms(TextCase):
    def test_word_for_word(self):
        for term, text in ((lit((2, 4), (3, 5)), "(lit 2x4 3,5)"), (lit(8, 0), "(lit 8 0)"), (("merge", "c", n("x"), last("y")), "(merge c (name x) (last y))"), (("wide", 4, n("x")), "(wide 4 (name x))"),
                           (("row", (n("x"), n("y"), n("z"))), "(row (name x) (name y) (name z))"), (("when", n("x"), "t", 0), "(when (name x) t 0)"), (("at", 0, n("r")), "(at 0 (name r))"),
                           (("bit", 7, n("r")), "(bit 7 (name r))"), (("first", n("x"), n("y")), "(first (name x) (name y))")):
            self.assertEqual(term_text(term=term), text)
            self.assertEqual(read_term(text=text), term)
            self.assertEqual(read_term("  " + text.replace(" ", "  ") + " "), term)

    def test_terms_of_programs(self):
        for one in ALL.nodes():
            for item in one[4]:
                for _, _, right in ([item] if item[0] == "let" else [own for told in item[1] for own in told[1]]):
                    for term in parts_of(right):
                        self.assertEqual(read_term(term_text(term)), term)

    def test_deep_ones(self):
        term = n("x")
        for _ in range(30):
            term = ("add", term, ("not", term)) if len(str(term)) < 300 else ("not", term)
        self.assertEqual(read_term(term_text(term)), term)

    def test_refusals(self):
        call = ("call", "twice", (n("a"),), None)
        for thing in [*any_things(), call, "(name x)", ("name", "X")]:
            self.refused(FlowError, NoTerm, thing, term_text, thing)
        for thing in [*any_things(), "(name x)\n", "\n(name x)", "(name\nx)", "(name x) (name y)", "(name x", "name x", "name x)", "name x))", "lit 4 3)", "(name x))", "(name x) )", "( name x)", "(call twice ((name a)) -)", "((name x))", "()", "", "  ", "(not " * 1000, "(" * 6000,
                      b"(name x)", ["(name x)"], ("name", "x"), "let x = (name x)", "(lit 4 16)", "(name x)\t"]:
            self.refused(FlowError, NoText, thing, read_term, thing)


if __name__ == "__main__":
    import unittest
    unittest.main()
