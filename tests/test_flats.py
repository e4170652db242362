"""Promises 51, 52 and 53: flat names, terms and lists, and their runs."""

from beatflows.errors import Barred, FlowError, Missing, NoFlat, NoIns, NoRow, NotThere, NoWorths, Over, TooMany
from beatflows.flats import Flat, FlatRun, need_ins, need_kept
from tests.helper import RefusalCase, any_things, nested

A, B, C, D = ("a",), ("b",), ("c",), ("d",)
I, J = ("i",), ("j",)
NAMES = [("x",), ("",), ("A b", 1, 2, 3, 4), ("x", (), ()), ("flow", ((0, 1), (2, 3)), "x", 0, -1), ("x", ("y", ("z", -5))), ("x", 10 ** 29)]
NO_NAMES = [
    "a", (), None, 1, ["a"], (1,), (("a",),), (None, 1), ("a", 1, 2, 3, 4, 5), ("a", None), ("a", True), ("a", False), ("a", [1]),
    ("a", (1, [2])), ("a", (None,)), ("a", (True,)), ("a", {}), ("a", ((((False,),),),)), (True,),
]


def f(name):
    return ("flat", name)


def c(item):
    return ("cell", item)


def lit(width, worth):
    return ("lit", width, worth)


def row(name, width, term, clock=()):
    return (name, width, clock, term)


def cell(item, width, first, term, clock=(), begins=None):
    return (item, width, first, clock, term, begins)


class FlatCase(RefusalCase):
    def no_row(self, at, some=(), rows=(), cells=(), outs=()):
        self.refused_fields(FlowError, NoRow, {"at": at}, Flat, list(some), list(rows), list(cells), list(outs))


class Made(FlatCase):
    def setUp(self):
        self.ins = [(A, 1, ()), (B, 4, ((A, 1),))]
        self.rows = [row(C, 4, ("add", f(B), c(I)), ((A, 1),)), row(D, 1, ("less", f(C), lit(4, 3)))]
        self.cells = [cell(I, 4, 3, f(C), ((A, 1),), None), cell(J, 1, 0, ("not", c(J)), (), D)]
        self.outs = [("x", (C,), ((A, 1),)), ("y", (B, C, B), ())]
        self.flat = Flat(self.ins, self.rows, self.cells, self.outs)

    def four(self, flat):
        return flat.ins(), flat.rows(), flat.cells(), flat.outs()

    def test_the_four(self):
        awaited = (self.ins, self.rows, self.cells, self.outs)
        self.assertEqual(self.four(self.flat), awaited)
        made = Flat(ins=tuple(self.ins), rows=tuple(self.rows), cells=tuple(self.cells), outs=tuple(self.outs))
        self.assertEqual(self.four(made), awaited)
        for told in self.four(made):
            self.assertIsInstance(told, list)
            told.clear()
        self.assertEqual(self.four(made), awaited)

    def test_what_was_handed_in_stays_and_counts_no_more(self):
        ahead = [list(one) for one in (self.ins, self.rows, self.cells, self.outs)]
        for one in (self.ins, self.rows, self.cells, self.outs):
            one.clear()
        self.assertEqual(list(self.four(self.flat)), ahead)

    def test_width_clock_and_len(self):
        self.assertEqual([self.flat.width(name) for name in (A, B, C, D)], [1, 4, 4, 1])
        self.assertEqual([self.flat.clock(name) for name in (A, B, C, D)], [(), ((A, 1),), ((A, 1),), ()])
        self.assertEqual((self.flat.width(name=A), self.flat.clock(name=A)), (1, ()))
        self.assertEqual(len(self.flat), 2)
        self.assertEqual(len(Flat([], [], [], [])), 0)
        for thing in [*NO_NAMES, *any_things(), I, ("z",)]:
            self.refused(Missing, NotThere, thing, self.flat.width, thing)
            self.refused(Missing, NotThere, thing, self.flat.clock, thing)

    def test_numbers_alone_are_in_names(self):
        flat = Flat([(("x", 1, 0), 1, ()), (("y", (1, (0,))), 1, ())], [], [], [])
        for name in (("x", True, 0), ("x", 1, False), ("y", (True, (0,))), ("y", (1, (False,)))):
            self.refused(Missing, NotThere, name, flat.width, name)
        self.assertEqual(flat.width(("x", 1, 0)), 1)

    def test_equal_are_those_of_equal_fours(self):
        parts = [self.ins, self.rows, self.cells, self.outs]
        self.assertTrue(self.flat == Flat(*[tuple(part) for part in parts]))
        self.assertFalse(self.flat != Flat(*parts))
        for at in range(4):
            other = [list(part) for part in parts]
            if at == 0:
                other[0] = [(A, 1, ()), (B, 4, ())]
            elif at == 1:
                other[1] = [self.rows[0], row(D, 1, ("less", f(C), lit(4, 2)))]
            else:
                other[at].reverse()
            self.assertFalse(self.flat == Flat(*other))
        for thing in [*any_things(), parts, tuple(parts)]:
            self.assertFalse(self.flat == thing)

    def test_what_is_no_list(self):
        for thing in any_things():
            if not isinstance(thing, (list, tuple)):
                for at in range(4):
                    four = [[], [], [], []]
                    four[at] = thing
                    self.refused(FlowError, NoFlat, thing, Flat, *four)
                    four[at + 1:] = [None] * (3 - at)
                    self.refused(FlowError, NoFlat, thing, Flat, *four)
                self.refused(FlowError, NoFlat, thing, Flat, [7], [7] * 500, [7] * 300, thing)

    def test_too_many(self):
        some = [(("i", at), 1, ()) for at in range(250)]
        rows = [row(("r", at), 1, lit(1, 0)) for at in range(151)]
        cells = [cell(("c", at), 1, 0, lit(1, 0)) for at in range(201)]
        self.assertEqual(len(Flat(some, rows[:150], cells[:200], [])), 150)
        self.refused_fields(Barred, TooMany, {"many": 401}, Flat, some, rows, cells[:200], [])
        self.refused_fields(Barred, TooMany, {"many": 401}, Flat, some, rows, cells, [])
        self.refused_fields(Barred, TooMany, {"many": 201}, Flat, some, rows[:150], cells, [])
        self.refused_fields(Barred, TooMany, {"many": 401}, Flat, [7] * 401, [], [], [7])
        self.refused_fields(Barred, TooMany, {"many": 450}, Flat, [], [7] * 450, [7] * 999, [7])
        self.refused_fields(Barred, TooMany, {"many": 202}, Flat, [7], [7], [7] * 202, [7])
        self.assertEqual(len(Flat([], [row(("r", at), 1, lit(1, 0)) for at in range(400)], [], [])), 400)


class Names(FlatCase):
    def test_flat_names_and_items(self):
        for name in NAMES:
            flat = Flat([(name, 1, ())], [row(("q",), 1, f(name), ((name, 1),))], [], [("x", (name,), ())])
            self.assertEqual(flat.width(name), 1)
            flat = Flat([], [row(name, 1, lit(1, 0))], [cell(("q",), 1, 0, f(name), ((name, 0),), name)], [])
            self.assertEqual(FlatRun(flat).beat({}), {})
            self.assertEqual(FlatRun(Flat([], [row(("q",), 1, c(name))], [cell(name, 1, 1, lit(1, 0))], [])).kept(), {name: 1})

    def test_what_is_none(self):
        # Of the any things, a tuple of one text alone is a flat name.
        others = [thing for thing in any_things() if not (isinstance(thing, tuple) and len(thing) == 1 and isinstance(thing[0], str))]
        for name in NO_NAMES + others:
            self.no_row(1, [(A, 1, ()), (name, 1, ())])
            self.no_row(1, [(A, 1, ())], [row(name, 1, lit(1, 0))])
            self.no_row(1, [(A, 1, ())], [], [cell(name, 1, 0, lit(1, 0))])
            self.no_row(1, [(A, 1, ())], [], [], [("x", (name,), ())])
            self.no_row(1, [(A, 1, ())], [], [], [("x", (A, name), ())])
            self.no_row(1, [(A, 1, ())], [row(B, 1, f(name))])
            self.no_row(1, [(A, 1, ())], [row(B, 1, c(name))])
            self.no_row(1, [(A, 1, ())], [row(B, 1, lit(1, 0), ((name, 1),))])
            if name is not None:
                self.no_row(1, [(A, 1, ())], [], [cell(I, 1, 0, lit(1, 0), (), name)])

    def test_nothing_stands_twice(self):
        self.no_row(1, [(A, 1, ()), (A, 4, ())])
        self.no_row(2, [(A, 1, ()), (B, 1, ()), (B, 1, ())], [row(A, 1, lit(1, 0))])
        self.no_row(1, [(A, 1, ())], [row(A, 1, lit(1, 0))])
        self.no_row(2, [(A, 1, ())], [row(B, 1, lit(1, 0)), row(B, 1, lit(1, 0))])
        self.no_row(2, [(A, 1, ())], [], [cell(I, 1, 0, lit(1, 0)), cell(I, 1, 0, lit(1, 0))])
        self.no_row(3, [(A, 1, ())], [], [cell(I, 1, 0, lit(1, 0))], [("x", (A,), ()), ("x", (A,), ())])

    def test_no_flat_name_is_an_item(self):
        self.no_row(1, [(B, 1, ()), (A, 1, ())], [], [cell(A, 1, 0, lit(1, 0))])
        self.no_row(1, [(B, 1, ())], [row(A, 1, lit(1, 0))], [cell(A, 1, 0, lit(1, 0))])
        # A known cell may be wrong otherwise.
        self.no_row(0, [(A, 1, ())], [], [(A, 1, 9, None, None, None)])
        # What isn't known is wrong by itself.
        self.no_row(1, [(A, 1, ())], [], [(A, 9, 0, (), lit(1, 0), None)])
        self.no_row(1, [(A, 1, ())], [], [(A, 1, 0, (), lit(1, 0))])
        self.no_row(1, [(A, 1, ())], [], [[A, 1, 0, (), lit(1, 0), None]])

    def test_out_names_are_names(self):
        for name in (*any_things(), A, "ab.c"):
            if name not in ("lit", "not"):
                self.no_row(1, [(A, 1, ())], [], [], [(name, (A,), ())])
        self.assertEqual(Flat([(A, 1, ())], [], [], [("abcdefgh", (A,), ())]).outs(), [("abcdefgh", (A,), ())])


class Rows(FlatCase):
    def test_what_is_no_in(self):
        good = (B, 1, ((A, 1),))
        for bad in (*any_things(), good[:2], (*good, 1), list(good), (B, 0, ()), (B, 9, ()), (B, True, ()), (B, (2, 1), ()), (B, None, ()),
                    (B, 1, []), (B, 1, None), (B, 1, (A, 1)), (B, 1, ((A,),)), (B, 1, ((A, 2),)), (B, 1, ((A, True),)), (B, 1, ([A, 1],)),
                    (B, 1, ((A, 1, 1),)), (B, 1, ((B, 1),)), (B, 1, ((C, 1),)), (B, 1, ((D, 1),)), (B, 1, ((A, 1), (C, 1)))):
            self.no_row(1, [(A, 1, ()), bad, (C, 1, ())], [row(D, 1, lit(1, 0))])
        Flat([(A, 1, ()), good, (C, 1, ((A, 0), (A, 1), (B, 1), (A, 0)))], [], [], [])

    def test_clocks_read_truths(self):
        self.no_row(1, [(A, 2, ()), (B, 1, ((A, 1),))])
        self.no_row(1, [(A, 2, ())], [row(B, 1, lit(1, 0), ((A, 1),))])
        self.no_row(1, [(A, 2, ())], [], [cell(I, 1, 0, lit(1, 0), ((A, 1),))])
        self.no_row(1, [(A, 2, ())], [], [], [("x", (A,), ((A, 1),))])

    def test_a_row_reads_ins_and_rows_ahead(self):
        some = [(A, 1, ())]
        Flat(some, [row(B, 1, f(A), ((A, 1),)), row(C, 1, f(B), ((A, 1), (B, 0)))], [], [])
        for bad in (row(B, 1, f(B)), row(B, 1, f(C)), row(B, 1, lit(1, 0), ((B, 1),)), row(B, 1, lit(1, 0), ((C, 1),)), row(B, 1, f(D)),
                    row(B, 1, ("and", f(A), ("not", f(C))))):
            self.no_row(1, some, [bad, row(C, 1, f(A))])

    def test_what_is_no_row(self):
        good = row(B, 1, f(A), ((A, 1),))
        for bad in (*any_things(), good[:3], (*good, 1), list(good), row(B, 0, f(A)), row(B, 2, f(A)), row(B, True, f(A)),
                    row(B, 1, f(A), []), row(B, 1, f(A), ((I, 1),)), row(B, 1, None), row(B, 1, [*f(A)])):
            self.no_row(1, [(A, 1, ())], [bad], [cell(I, 1, 0, lit(1, 0))])

    def test_rows_read_cells_that_never_begin_or_are_told_ahead(self):
        some = [(A, 1, ()), (B, 2, ())]
        reads = row(D, 1, ("and", c(I), lit(1, 1)))
        for begins in (None, A, C):
            Flat(some, [row(C, 1, lit(1, 0)), reads], [cell(I, 1, 0, lit(1, 0), (), begins)], [])
        for begins in (B, D, ("z",), I, "a", 1, [], nested(40)):
            self.no_row(3, some, [row(C, 1, lit(1, 0)), reads], [cell(I, 1, 0, lit(1, 0), (), begins)])
        self.no_row(2, some, [reads, row(C, 1, lit(1, 0))], [cell(I, 1, 0, lit(1, 0), (), C)])
        self.no_row(3, some, [row(C, 2, lit(2, 0)), reads], [cell(I, 1, 0, lit(1, 0), (), C)])

    def test_known_cells(self):
        reads = row(D, 1, c(I))
        # A row may read a cell that is wrong otherwise: then the cell's number goes.
        for bad in ((I, 1, 7, (), lit(1, 0), None), (I, 1, 0, None, lit(1, 0), None), (I, 1, 0, (), None, None)):
            self.no_row(1, [], [reads], [bad])
        for bad in ((I, 0, 0, (), lit(1, 0), None), (I, 1, 0, (), lit(1, 0)), [I, 1, 0, (), lit(1, 0), None], ((1,), 1, 0, (), lit(1, 0), None),
                    (I, True, 0, (), lit(1, 0), None), 7):
            self.no_row(0, [], [reads], [bad])
        # Of one item the first counts.
        self.no_row(2, [], [reads], [cell(I, 1, 0, lit(1, 0)), cell(I, 2, 0, lit(2, 0))])
        self.no_row(0, [], [reads], [cell(I, 2, 0, lit(2, 0)), cell(I, 1, 0, lit(1, 0))])
        self.no_row(0, [], [reads], [cell(I, 1, 0, lit(1, 0), (), D), cell(I, 1, 0, lit(1, 0))])
        self.no_row(2, [], [reads], [(I, 0, 0, (), lit(1, 0), None), cell(I, 1, 0, lit(1, 0))][::-1])


class Terms(FlatCase):
    def width_of(self, term):
        told = []
        for width in range(1, 9):
            try:
                Flat([(A, 1, ()), (B, 4, ())], [row(C, width, term)], [cell(I, 4, 0, lit(4, 0)), cell(J, 1, 0, lit(1, 0))], [])
                told.append(width)
            except NoRow as refusal:
                self.assertEqual(refusal.at, 2)
        return told

    def test_each_form(self):
        for term, width in (
            (lit(4, 15), 4), (lit(8, 255), 8), (f(A), 1), (f(B), 4), (c(I), 4), (c(J), 1), (("not", f(B)), 4), (("and", f(B), c(I)), 4),
            (("or", f(A), c(J)), 1), (("xor", f(B), lit(4, 1)), 4), (("add", f(B), f(B)), 4), (("sub", f(B), f(B)), 4),
            (("less", f(B), c(I)), 1), (("same", f(B), c(I)), 1), (("wide", 7, f(B)), 7), (("wide", 2, f(A)), 2), (("bit", 3, f(B)), 1),
            (("bit", 0, f(A)), 1), (("pick", f(A), f(B), c(I)), 4), (("pick", c(J), f(A), f(A)), 1),
            (("pick", ("less", f(B), lit(4, 2)), ("add", f(B), lit(4, 1)), ("wide", 4, f(A))), 4),
        ):
            self.assertEqual(self.width_of(term), [width], term)

    def test_widths_that_do_not_fit(self):
        for term in (("and", f(A), f(B)), ("add", f(B), lit(3, 1)), ("less", f(A), f(B)), ("same", f(B), f(A)), ("bit", 4, f(B)), ("bit", 1, f(A)),
                     ("pick", f(B), f(B), f(B)), ("pick", f(A), f(A), f(B)), ("not", ("and", f(A), f(B)))):
            self.assertEqual(self.width_of(term), [], term)

    def test_what_is_no_flat_term(self):
        for term in (
            *any_things(), (), ("name", "a"), ("last", "a"), ("first", f(A), f(A)), ("when", f(A), "a", 1), ("merge", "a", f(A), f(A)),
            ("row", (f(A), f(A))), ("at", 0, f(A)), lit(1, 2), lit(0, 0), lit(9, 0), lit(1, True), lit(True, 0), lit((2, 1), (0, 0)),
            ("lit", 1), ("lit", 1, 0, 0), ("flat",), ("flat", A, A), ("flat", "a"), ("flat", ("z",)), ("flat", I), ("cell", A), ("cell", ("z",)),
            ("cell", I, I), ("not",), ("not", A), ("not", f(A), f(A)), ("and", f(A)), ("and", f(A), f(A), f(A)), ("wide", 0, f(A)),
            ("wide", 9, f(A)), ("wide", True, f(A)), ("wide", f(A)), ("wide", None, f(A)), ("bit", -1, f(B)), ("bit", 8, f(B)),
            ("bit", False, f(B)), ("bit", f(B)), ("pick", f(A), f(A)), ("pick", f(A), f(A), f(A), f(A)), ("nor", f(A), f(A)),
            ("call", "a", (f(A),), None), ["not", f(A)], ("not", ["flat", A]), ("not", None), (f(A),), ("pick", f(A), None, f(A)),
        ):
            self.assertEqual(self.width_of(term), [], term)


class CellsAndOuts(FlatCase):
    def test_cells_read_any(self):
        some, rows = [(A, 1, ())], [row(B, 1, f(A)), row(C, 4, lit(4, 0))]
        cells = [cell(I, 1, 0, ("and", f(B), c(J)), ((B, 0), (A, 1)), B), cell(J, 1, 1, c(I), (), A)]
        Flat(some, rows, cells, [])

    def test_what_is_no_cell(self):
        some = [(A, 1, ()), (B, 4, ())]
        good = cell(I, 4, 3, f(B), ((A, 1),), A)
        bad_ones = [good[:5], (*good, 1), list(good)]
        for at, things in ((1, (0, 9, True, None, (2, 4))), (2, (16, -1, True, None, "3", (3,))), (3, ([], None, ((B, 1),), ((I, 1),), (A, 1))),
                           (4, (f(A), None, lit(4, 16), f(("z",)), c(("z",)), ("not", f(A)), c(J))), (5, (B, I, ("z",), "a", 0, False, (A,)))):
            bad_ones += [good[:at] + (thing,) + good[at + 1:] for thing in things]
        for bad in bad_ones + any_things():
            self.no_row(3, some, [], [cell(J, 1, 0, lit(1, 0)), bad])
        Flat(some, [], [cell(J, 1, 0, lit(1, 0)), good], [])

    def test_what_is_no_out(self):
        some = [(A, 1, ()), (B, 4, ()), (C, 4, ())]
        good = ("x", (B, C), ((A, 1),))
        bad_ones = [good[:2], (*good, 1), list(good)]
        for at, things in ((1, ((), [B, C], B, (B, A), (B,) * 5, (B, D), (B, I), None, "b", (B, None))),
                           (2, ([], None, ((B, 1),), ((A, 2),), ((D, 1),), ((I, 1),)))):
            bad_ones += [good[:at] + (thing,) + good[at + 1:] for thing in things]
        for bad in bad_ones + any_things():
            self.no_row(5, some, [], [cell(I, 4, 0, lit(4, 0))], [("a", (A, A, A, A), ()), bad])
        self.no_row(3, some, [], [], [("x", (D,), ())])
        self.no_row(3, some, [], [], [("x", (D, D), ())])
        Flat(some, [], [], [good, ("a", (B, B, C, B), ())])

    def test_the_first_of_all_goes(self):
        bad = [[(A, 9, ())], [row(B, 9, lit(1, 0))], [cell(I, 9, 0, lit(1, 0))], [("x", (), ())]]
        good = [[(A, 1, ())], [row(B, 1, lit(1, 0))], [cell(I, 1, 0, lit(1, 0))], [("x", (B,), ())]]
        for at in range(4):
            self.no_row(at, *[*good[:at], *bad[at:]])
            for other in range(at + 1, 4):
                four = list(good)
                four[at], four[other] = bad[at], bad[other]
                self.no_row(at, *four)
        self.no_row(1, [(A, 1, ())], [row(B, 9, lit(1, 0)), row(C, 9, lit(1, 0))])


class Runs(FlatCase):
    def beats(self, flat, *rows):
        run = FlatRun(flat)
        return [run.beat(ins) for ins in rows]

    def test_silent_flows_are_read_as_0(self):
        flat = Flat([(A, 1, ()), (B, 4, ((A, 1),))], [row(C, 4, ("add", f(B), lit(4, 1))), row(D, 4, f(C), ((A, 0),))], [],
                    [("x", (C,), ()), ("y", (D,), ((A, 0),)), ("z", (D, B), ())])
        rows = [{A: 1, B: 5}, {A: 0}]
        self.assertEqual(self.beats(flat, *rows), [{"x": 6, "z": (0, 5)}, {"x": 1, "y": 1, "z": (1, 0)}])
        run = FlatRun(flat)
        self.assertEqual([run.worth(name) for name in (A, B, C, D)], [None] * 4)
        run.beat(rows[0])
        self.assertEqual([run.worth(name) for name in (A, B, C, D)], [1, 5, 6, None])
        run.beat(rows[1])
        self.assertEqual([run.worth(name=name) for name in (A, B, C, D)], [0, None, 1, 1])

    def test_a_condition_on_what_is_silent(self):
        # B is silent where A has 0: neither truth is there, though it is read as 0.
        flat = Flat([(A, 1, ()), (B, 1, ((A, 1),))], [row(C, 1, lit(1, 1), ((B, 0),)), row(D, 1, lit(1, 1), ((C, 1), (C, 1)))],
                    [cell(I, 4, 0, ("add", c(I), lit(4, 1)), ((B, 0),))], [("x", (C,), ((B, 0),)), ("y", (D,), ((D, 1),))])
        rows = [{A: 0}, {A: 1, B: 0}, {A: 1, B: 1}]
        self.assertEqual(self.beats(flat, *rows), [{}, {"x": 1, "y": 1}, {}])
        run = FlatRun(flat)
        for ins in rows:
            run.beat(ins)
        self.assertEqual(run.kept(), {I: 1})

    def test_outs_in_their_order(self):
        flat = Flat([(A, 1, ())], [], [], [("z", (A,), ()), ("a", (A,), ((A, 1),)), ("m", (A,), ())])
        self.assertEqual([list(told) for told in self.beats(flat, {A: 1}, {A: 0})], [["z", "a", "m"], ["z", "m"]])

    def test_words(self):
        terms = [("not", f(B)), ("sub", f(B), lit(4, 7)), ("wide", 4, ("wide", 2, f(B))), ("pick", ("bit", 2, f(B)), lit(4, 1), lit(4, 2)),
                 ("wide", 4, ("less", f(B), lit(4, 6))), ("wide", 4, ("same", f(B), lit(4, 5))), ("xor", f(B), lit(4, 15)), ("or", f(B), lit(4, 2))]
        rows = [row(("r", at), 4, term) for at, term in enumerate(terms)]
        flat = Flat([(B, 4, ())], rows, [], [("abcdefgh"[at], (("r", at),), ()) for at in range(8)])
        self.assertEqual(self.beats(flat, {B: 5}, {B: 8}), [dict(zip("abcdefgh", told)) for told in
                                                           ((10, 14, 1, 1, 1, 1, 10, 7), (7, 1, 0, 2, 0, 0, 7, 10))])

    def test_cells_that_keep(self):
        flat = Flat([(A, 1, ()), (B, 4, ())], [row(C, 4, c(I))], [cell(I, 4, 3, ("add", c(I), f(B)), ((A, 1),))], [("x", (C,), ())])
        rows = [{A: 0, B: 1}, {A: 1, B: 2}, {A: 0, B: 1}, {A: 1, B: 1}, {A: 0, B: 0}]
        self.assertEqual(self.beats(flat, *rows), [{"x": worth} for worth in (3, 3, 5, 5, 6)])

    def test_cells_that_begin(self):
        cells = [cell(I, 4, 3, ("add", c(I), lit(4, 1)), (), A), cell(J, 4, 2, ("add", c(J), lit(4, 1)), ((B, 1),), A)]
        flat = Flat([(A, 1, ()), (B, 1, ())], [], cells, [])
        run = FlatRun(flat)
        seen = []
        for a, b in ((0, 0), (0, 1), (1, 0), (0, 1), (1, 1), (0, 0)):
            run.beat({A: a, B: b})
            seen.append(tuple(run.kept().values()))
        self.assertEqual(seen, [(4, 2), (5, 3), (4, 2), (5, 3), (4, 3), (5, 3)])

    def test_a_cell_that_begins_reads_as_its_first(self):
        cells = [cell(I, 4, 3, ("add", c(I), lit(4, 1)), (), A)]
        flat = Flat([(A, 1, ())], [row(C, 4, c(I))], [*cells, cell(J, 4, 0, c(I), ())], [("x", (C,), ())])
        self.assertEqual(self.beats(flat, *[{A: a} for a in (0, 0, 1, 0)]), [{"x": 3}, {"x": 4}, {"x": 3}, {"x": 4}])
        run = FlatRun(flat)
        for a in (0, 0, 1):
            run.beat({A: a})
        self.assertEqual(run.kept(), {I: 4, J: 3})

    def test_a_silent_begins_begins_nothing(self):
        flat = Flat([(A, 1, ()), (B, 1, ((A, 1),))], [], [cell(I, 4, 3, ("add", c(I), lit(4, 1)), ((A, 0),), B)], [])
        run = FlatRun(flat)
        seen = []
        for ins in ({A: 0}, {A: 1, B: 0}, {A: 0}, {A: 1, B: 1}, {A: 0}):
            run.beat(ins)
            seen.append(run.kept()[I])
        self.assertEqual(seen, [4, 4, 5, 3, 4])

    def test_cells_read_what_was_kept_ahead_of_the_beat(self):
        flat = Flat([], [], [cell(I, 1, 0, c(J)), cell(J, 1, 1, c(I))], [])
        run = FlatRun(flat)
        run.beat({})
        self.assertEqual(run.kept(), {I: 1, J: 0})

    def test_kept_worths_handed_in(self):
        flat = Flat([], [row(C, 4, c(I))], [cell(J, 1, 1, c(J)), cell(I, 4, 3, ("add", c(I), lit(4, 1)))], [("x", (C,), ())])
        kept = {I: 9, J: 0}
        run = FlatRun(flat=flat, kept=kept)
        self.assertEqual(list(run.kept().items()), [(J, 0), (I, 9)])
        kept[I] = 1
        self.assertEqual([run.beat({}), run.beat({})], [{"x": 9}, {"x": 10}])
        self.assertEqual(kept, {I: 1, J: 0})
        self.assertEqual(list(FlatRun(flat).kept().items()), [(J, 1), (I, 3)])
        self.assertEqual(FlatRun(flat, kept=None).kept(), {J: 1, I: 3})

    def test_refused_when_made(self):
        flat = Flat([], [], [cell(("c", 1), 4, 3, lit(4, 1)), cell(J, 1, 0, lit(1, 0))], [])
        for thing in any_things():
            self.refused(FlowError, NoFlat, thing, FlatRun, thing, kept=thing)
        item = ("c", 1)
        for kept in ({}, {item: 3}, {item: 3, J: 0, I: 0}, {item: 16, J: 0}, {item: 3, J: 2}, {item: True, J: 0}, {item: 3, J: False},
                     {item: None, J: 0}, {item: 3, "j": 0}, {("c", True): 3, J: 0}, {item: 3, I: 0}, [(item, 3), (J, 0)]):
            self.refused(FlowError, NoWorths, kept, FlatRun, flat, kept=kept)
        for thing in any_things():
            if thing is not None:
                self.refused(FlowError, NoWorths, thing, FlatRun, flat, kept=thing)
        self.assertRaises(TypeError, FlatRun, flat, None)

    def test_refused_ins(self):
        flat = Flat([(("a", 1), 1, ()), (B, 4, ((("a", 1), 1),)), (C, 1, ((("a", 1), 1), (("a", 1), 0)))], [],
                    [cell(I, 4, 0, ("add", c(I), lit(4, 1)))], [])
        run = FlatRun(flat)
        a = ("a", 1)
        for ins in ({}, {a: 1}, {a: 0, B: 1}, {a: 2}, {a: True}, {a: None}, {a: 1, B: 16}, {a: 1, B: (1,)}, {a: 0, C: 0}, {a: 0, "x": 0},
                    {("a", True): 0}, {a: 0, (1,): 0}, {a: 0, None: 0}, {a: 1, B: 3, C: 1}, {B: 3}, [a], [(a, 0)], *any_things()):
            self.refused(FlowError, NoIns, ins, run.beat, ins)
        self.assertEqual((run.beats(), run.kept(), run.worth(a)), (0, {I: 0}, None))
        run.beat(ins={B: 15, a: 1})
        self.assertEqual((run.beats(), run.kept(), run.worth(B)), (1, {I: 1}, 15))

    def test_ins_by_ins_that_are_silent_themselves(self):
        flat = Flat([(A, 1, ()), (B, 1, ((A, 1),)), (C, 1, ((B, 0),))], [], [], [("x", (C,), ((C, 1),))])
        self.assertEqual(self.beats(flat, {A: 0}, {A: 1, B: 1}, {A: 1, B: 0, C: 1}), [{}, {}, {"x": 1}])
        for ins in ({A: 0, C: 1}, {A: 0, B: 0, C: 1}, {A: 1, B: 0}):
            self.refused(FlowError, NoIns, ins, FlatRun(flat).beat, ins)

    def test_worths_asked_of_no_flow(self):
        run = FlatRun(Flat([(("a", 1), 1, ())], [], [cell(I, 1, 0, lit(1, 0))], []))
        for name in [*NO_NAMES, *any_things(), I, ("a", True), ("z",)]:
            self.refused(Missing, NotThere, name, run.worth, name)

    def test_the_120th_beat_and_one_more(self):
        run = FlatRun(Flat([(A, 1, ())], [], [cell(I, 8, 0, ("add", c(I), lit(8, 1)))], []))
        for _ in range(120):
            run.beat({A: 1})
        for ins in ({A: 1}, {}, None):
            self.refused_fields(Barred, Over, {"found": 120}, run.beat, ins)
        self.assertEqual((run.beats(), run.kept()), (120, {I: 120}))
        self.assertRaises(Over, run.twin().beat, {A: 1})

    def test_twins(self):
        flat = Flat([(A, 1, ())], [row(B, 4, c(I))], [cell(I, 4, 3, ("add", c(I), lit(4, 1)), ((A, 1),))], [("x", (B,), ())])
        run = FlatRun(flat, kept={I: 7})
        run.beat({A: 1})
        twin = run.twin()
        self.assertIs(twin.__class__, FlatRun)
        self.assertEqual((twin.beats(), twin.kept(), twin.worth(B), twin.worth(A)), (1, {I: 8}, 7, 1))
        self.assertEqual(twin.beat({A: 1}), {"x": 8})
        self.assertEqual((run.beats(), run.kept(), run.worth(B)), (1, {I: 8}, 7))
        self.assertEqual(run.beat({A: 0}), {"x": 8})
        self.assertEqual((twin.kept(), twin.worth(A)), ({I: 9}, 1))

    def test_told_dicts_are_new(self):
        run = FlatRun(Flat([], [row(B, 1, lit(1, 1))], [cell(I, 4, 3, c(I))], [("x", (B,), ())]))
        run.beat({}).clear()
        run.kept().clear()
        self.assertEqual((run.kept(), run.worth(B)), ({I: 3}, 1))


class ForOthers(FlatCase):
    def setUp(self):
        self.flat = Flat([(A, 1, ()), (B, 4, ((A, 1),))], [], [cell(J, 1, 1, lit(1, 0)), cell(I, 4, 2, lit(4, 0))], [])

    def test_need_ins(self):
        ins = {B: 3, A: 1}
        told = need_ins(flat=self.flat, ins=ins)
        self.assertEqual(list(told.items()), [(A, 1), (B, 3)])
        told.clear()
        self.assertEqual(ins, {B: 3, A: 1})
        self.assertEqual(need_ins(self.flat, {A: 0}), {A: 0})
        for thing in [{}, {A: 1}, {A: 0, B: 3}, *any_things()]:
            self.refused(FlowError, NoIns, thing, need_ins, self.flat, thing)

    def test_need_kept(self):
        self.assertEqual(list(need_kept(flat=self.flat, kept={I: 4, J: 0}).items()), [(J, 0), (I, 4)])
        self.assertEqual(list(need_kept(self.flat, None).items()), [(J, 1), (I, 2)])
        for thing in [{I: 4}, {I: 4, J: 2}, {I: 4, J: 0, A: 1}, *any_things()]:
            if thing is not None:
                self.refused(FlowError, NoWorths, thing, need_kept, self.flat, thing)


if __name__ == "__main__":
    import unittest
    unittest.main()
