"""Promises 14 and 15: terms, right sides, and what is told of them."""

import copy

from beatflows.errors import FlowError, NoNames, NoTerm
from beatflows.terms import (
    firsts_in, is_right, is_term, lasts_in, names_in, parts_of, renamed, size_of,
)
from tests.helper import RefusalCase, any_things

A = ("name", "a")
B = ("last", "b")
ONE = ("lit", 1, 1)

# A good term of each form, its terms within it last, so that each can be made bad by hand.
GOOD_TERMS = [
    ("lit", 1, 0), ("lit", 8, 255), ("lit", (2, 1), (0, 1)), ("lit", (4, 8), (255, 0, 1, 2)),
    ("name", "x"), ("name", "abcdefgh"), ("last", "x"),
    ("first", A, B), ("not", A), ("and", A, B), ("or", A, B), ("xor", A, B), ("add", A, B), ("sub", A, B),
    ("less", A, B), ("same", A, B), ("wide", 1, A), ("wide", 8, A), ("bit", 0, A), ("bit", 7, A),
    ("pick", ONE, A, B), ("when", A, "x", 0), ("when", A, "x", 1), ("merge", "x", A, B),
    ("row", (A, B)), ("row", (A, B, ONE)), ("row", (A, B, ONE, A)), ("at", 0, A), ("at", 3, A),
]

GOOD_CALLS = [
    ("call", "sum", (), None), ("call", "m.sum", (A,), "x"), ("call", "sum", (A, B, ONE, A, B, ONE), "x"),
    ("map", "sum", (A,), None), ("map", "m.sum", (A, B, ONE, A), "x"),
    ("fold", "sum", ONE, (A,), None), ("fold", "m.sum", ONE, (A, B, ONE, A), "x"),
    ("pairs", "sum", A, None), ("pairs", "abcdefgh.abcdefgh", A, "x"),
]

BAD_TERMS = [
    ("lit", 1, 2), ("lit", 0, 0), ("lit", 9, 0), ("lit", 1, True), ("lit", True, 1), ("lit", 1, -1), ("lit", 1, None),
    ("lit", (2, 1), (0,)), ("lit", (2, 1), [0, 1]), ("lit", [2, 1], (0, 1)), ("lit", (2, 1), (0, 2)), ("lit", (2, 1), 0),
    ("lit", (5, 1), (0, 0, 0, 0, 0)), ("lit", (1, 1), (0,)), ("lit", 1, (0,)),
    ("name", ""), ("name", "abcdefghi"), ("name", "A"), ("name", "a.b"), ("name", None), ("name", 1), ("name", ("x",)),
    ("last", ""), ("last", "x "), ("last", A), ("last", ["x"]),
    ("wide", 0, A), ("wide", 9, A), ("wide", True, A), ("wide", (2, 3), A), ("wide", A, 1), ("wide", None, A),
    ("bit", -1, A), ("bit", 8, A), ("bit", False, A), ("bit", True, A), ("bit", "0", A), ("bit", A, 0),
    ("when", A, "x", 2), ("when", A, "x", -1), ("when", A, "x", True), ("when", A, "x", False), ("when", A, "x", None),
    ("when", A, "X", 1), ("when", A, A, 1), ("when", "x", A, 1), ("when", A, 1, "x"),
    ("merge", "x.y", A, B), ("merge", A, A, B), ("merge", A, "x", B), ("merge", None, A, B), ("merge", ["x"], A, B),
    ("row", ()), ("row", (A,)), ("row", (A, A, A, A, A)), ("row", [A, B]), ("row", A, B), ("row", None), ("row", {}),
    ("row", "ab"), ("row", (A, "x")), ("row", (A, None)),
    ("at", -1, A), ("at", 4, A), ("at", True, A), ("at", False, A), ("at", A, 0), ("at", None, A),
    (), ("nor", A, B), ("NOT", A), ("not ", A), (None, A), (["not"], A), (("not",), A), (True, A), (0, A), ("", A),
    ("not", "x"), ("not", None), ("not", ["name", "x"]), ("not", ("not",)), ("let", ("x",), A), ("states", ()),
]

BAD_CALLS = [
    ("call", "", (), None), ("call", "a.b.c", (), None), ("call", ".", (), None), ("call", "a.", (), None),
    ("call", ".a", (), None), ("call", "a..b", (), None), ("call", "A.b", (), None), ("call", "a.abcdefghi", (), None),
    ("call", "abcdefghi.a", (), None), ("call", "a b", (), None), ("call", None, (), None), ("call", ("a", "b"), (), None),
    ("call", "a", (A,) * 7, None), ("call", "a", [], None), ("call", "a", [A], None), ("call", "a", None, None),
    ("call", "a", A, None), ("call", "a", (A, None), None), ("call", "a", ("x",), None), ("call", "a", {}, None),
    ("call", "a", (), "A"), ("call", "a", (), ""), ("call", "a", (), "a.b"), ("call", "a", (), True),
    ("call", "a", (), False), ("call", "a", (), 0), ("call", "a", (), A), ("call", "a", (), ()), ("call", "a", (), ["x"]),
    ("map", "a", (), None), ("map", "a", (A,) * 5, None), ("map", "a", [A], None), ("map", "a", A, None),
    ("map", "a.b.c", (A,), None), ("map", "a", (A,), False),
    ("fold", "a", ONE, (), None), ("fold", "a", ONE, (A,) * 5, None), ("fold", "a", (A,), ONE, None),
    ("fold", "a", None, (A,), None), ("fold", "a", (), (A,), None), ("fold", "a", ONE, [A], None),
    ("fold", "A", ONE, (A,), None), ("fold", "a", ONE, (A,), "X"),
    ("pairs", "a", (A,), None), ("pairs", "a", None, None), ("pairs", "a", A, 1), ("pairs", 1, A, None), ("pairs", "a", (), None),
]

# One term that stands within others, and what is told of all of it.
DEEP = ("merge", "c", ("when", ("first", ("last", "x"), ("name", "c")), "a", 1), ("row", (("name", "b"), ("not", ("name", "a")))))


def deep_term(deep):
    term = ("name", "x")
    for _ in range(deep - 1):
        term = ("not", term)
    return term


class IsTerm(RefusalCase):
    def test_each_form(self):
        for term in GOOD_TERMS:
            self.assertIs(is_term(term), True, term)
            self.assertIs(is_right(term), True, term)

    def test_each_form_of_other_right_sides_is_no_term(self):
        for right in GOOD_CALLS:
            self.assertIs(is_right(right), True, right)
            self.assertIs(is_term(right), False, right)

    def test_what_has_no_form(self):
        for thing in BAD_TERMS + BAD_CALLS:
            self.assertIs(is_term(thing), False, thing)
            self.assertIs(is_right(thing), False, thing)

    def test_a_thing_more_or_less(self):
        for right in GOOD_TERMS + GOOD_CALLS:
            for more in (None, 0, "x", A, ()):
                self.assertIs(is_right(right + (more,)), False, right)
                self.assertIs(is_term(right + (more,)), False, right)
            for place in range(len(right)):
                less = right[:place] + right[place + 1:]
                self.assertIs(is_right(less), False, less)
                self.assertIs(is_term(less), False, less)

    def test_a_list_is_no_tuple(self):
        for right in GOOD_TERMS + GOOD_CALLS:
            self.assertIs(is_right(list(right)), False, right)
            self.assertIs(is_term(list(right)), False, right)
            if is_term(right):
                self.told_false(is_term(("not", list(right))))

    def test_bad_ones_within_good_ones(self):
        for bad in BAD_TERMS + GOOD_CALLS + [None, "x", 1, list(A)]:
            for outer in [("first", bad, A), ("first", A, bad), ("not", bad), ("and", bad, A), ("same", A, bad),
                          ("wide", 1, bad), ("bit", 0, bad), ("pick", bad, A, A), ("pick", A, bad, A), ("pick", A, A, bad),
                          ("when", bad, "x", 1), ("merge", "x", bad, A), ("merge", "x", A, bad), ("row", (bad, A)),
                          ("row", (A, A, bad)), ("at", 0, bad), ("call", "n", (bad,), None), ("call", "n", (A, bad), None),
                          ("map", "n", (A, bad), None), ("fold", "n", bad, (A,), None), ("fold", "n", A, (A, bad), None),
                          ("pairs", "n", bad, None)]:
                self.assertIs(is_right(outer), False, outer)
                self.assertIs(is_term(outer), False, outer)
                self.assertIs(is_term(("not", ("not", outer))), False, outer)

    def test_good_ones_within_good_ones(self):
        for good in GOOD_TERMS:
            for outer in [("first", good, good), ("pick", good, good, good), ("when", good, "x", 1),
                          ("merge", "x", good, good), ("row", (good,) * 4), ("at", 0, good), ("wide", 8, good)]:
                self.told_true(is_term(outer))
                self.told_true(is_right(("call", "n", (outer,) * 6, "x")))
                self.told_true(is_right(("fold", "n", outer, (outer,) * 4, None)))

    def test_eight_deep(self):
        self.told_true(is_term(deep_term(8)))
        self.told_false(is_term(("not",) + (deep_term(7)[:1],)))
        wide = ("name", "x")
        for _ in range(7):
            wide = ("add", wide, wide)
        self.told_true(is_term(wide))
        self.assertEqual(size_of(wide), 255)

    def test_any_things_are_none(self):
        for thing in any_things():
            self.told_false(is_term(thing))
            self.told_false(is_right(thing))

    def test_by_name(self):
        self.told_true(is_term(thing=A))
        self.told_true(is_right(thing=GOOD_CALLS[0]))


class Parts(RefusalCase):
    def test_each_ahead_of_those_within_it_from_left_to_right(self):
        when, row = DEEP[2], DEEP[3]
        awaited = [DEEP, when, when[1], ("last", "x"), ("name", "c"), row, ("name", "b"), ("not", ("name", "a")), ("name", "a")]
        self.assertEqual(parts_of(DEEP), awaited)
        self.assertEqual(size_of(DEEP), 9)

    def test_each_form(self):
        within = {"wide": [2], "bit": [2], "at": [2], "when": [1], "merge": [2, 3], "lit": [], "name": [], "last": []}
        for term in GOOD_TERMS:
            places = within.get(term[0], range(1, len(term)))
            inner = list(term[1]) if term[0] == "row" else [term[place] for place in places]
            self.assertEqual(parts_of(term), [term, *inner], term)
            self.assertEqual(size_of(term), 1 + len(inner), term)

    def test_of_other_right_sides_those_of_their_terms(self):
        self.assertEqual(parts_of(("call", "n", (), None)), [])
        self.assertEqual(parts_of(("call", "n", (("not", A), B), "x")), [("not", A), A, B])
        self.assertEqual(parts_of(("map", "n", (("not", A), B), "x")), [("not", A), A, B])
        self.assertEqual(parts_of(("fold", "n", ("not", ONE), (("not", A), B), "x")), [("not", ONE), ONE, ("not", A), A, B])
        self.assertEqual(parts_of(("pairs", "n", ("at", 1, A), "x")), [("at", 1, A), A])

    def test_sizes_of_other_right_sides(self):
        self.assertEqual(size_of(("call", "n", (), None)), 1)
        self.assertEqual(size_of(("call", "n", (("not", A), B), "x")), 4)
        self.assertEqual(size_of(("map", "n", (A,), None)), 2)
        self.assertEqual(size_of(("fold", "n", ONE, (A,), None)), 3)
        self.assertEqual(size_of(("pairs", "n", A, None)), 2)

    def test_equal_parts_count_each_by_itself(self):
        self.assertEqual(parts_of(("add", A, A)), [("add", A, A), A, A])

    def test_told_lists_are_new(self):
        told = parts_of(DEEP)
        told.clear()
        self.assertEqual(len(parts_of(DEEP)), 9)


class Names(RefusalCase):
    def test_part_by_part_every_last(self):
        self.assertEqual(names_in(DEEP), ["c", "a", "b"])
        self.assertEqual(names_in(("when", ("name", "b"), "a", 1)), ["a", "b"])
        self.assertEqual(names_in(("merge", "m", ("name", "b"), ("name", "a"))), ["m", "b", "a"])
        self.assertEqual(names_in(("call", "n", (("name", "b"), ("name", "a")), "e")), ["b", "a", "e"])
        self.assertEqual(names_in(("map", "n", (("name", "b"),), "a")), ["b", "a"])
        self.assertEqual(names_in(("fold", "n", ("name", "z"), (("name", "b"),), "a")), ["z", "b", "a"])
        self.assertEqual(names_in(("pairs", "n", ("name", "b"), "a")), ["b", "a"])
        self.assertEqual(names_in(("call", "n", (), "e")), ["e"])

    def test_none(self):
        self.assertEqual(names_in(("lit", 1, 0)), [])
        self.assertEqual(names_in(("last", "x")), [])
        self.assertEqual(names_in(("call", "n", (), None)), [])
        self.assertEqual(lasts_in(("name", "x")), [])
        self.assertEqual(lasts_in(("call", "n", (), "x")), [])
        self.assertEqual(firsts_in(("last", "x")), 0)

    def test_no_name_twice(self):
        self.assertEqual(names_in(("add", ("name", "b"), ("add", ("name", "a"), ("name", "b")))), ["b", "a"])
        self.assertEqual(names_in(("call", "n", (("name", "b"), ("name", "a")), "b")), ["b", "a"])
        self.assertEqual(names_in(("when", ("merge", "x", ("name", "x"), A), "x", 0)), ["x", "a"])

    def test_lasts(self):
        term = ("pick", ("last", "z"), ("add", ("last", "a"), ("name", "b")), ("last", "z"))
        self.assertEqual(lasts_in(term), ["z", "a"])
        self.assertEqual(lasts_in(("last", "x")), ["x"])
        self.assertEqual(lasts_in(DEEP), ["x"])
        self.assertEqual(lasts_in(("fold", "n", ("last", "b"), (("last", "a"), ("last", "b")), "e")), ["b", "a"])
        self.assertEqual(lasts_in(("when", ("last", "a"), "x", 1)), ["a"])
        self.assertEqual(lasts_in(("merge", "x", ("last", "b"), ("last", "a"))), ["b", "a"])

    def test_firsts(self):
        first = ("first", A, B)
        self.assertEqual(firsts_in(first), 1)
        self.assertEqual(firsts_in(("first", first, ("not", first))), 3)
        self.assertEqual(firsts_in(("fold", "n", first, (first, A), "e")), 2)
        self.assertEqual(firsts_in(("call", "n", (), None)), 0)
        self.assertEqual(firsts_in(DEEP), 1)

    def test_told_lists_are_new(self):
        for tell in (names_in, lasts_in):
            before = list(tell(DEEP))
            tell(DEEP).append("q")
            self.assertEqual(tell(DEEP), before)


class Renamed(RefusalCase):
    def test_each_place_of_a_name(self):
        names = {"x": "y", "a": "p", "b": "q"}
        for right, awaited in [
            (("name", "x"), ("name", "y")), (("last", "x"), ("last", "y")),
            (("when", A, "x", 1), ("when", ("name", "p"), "y", 1)),
            (("merge", "x", A, B), ("merge", "y", ("name", "p"), ("last", "q"))),
            (("row", (A, B)), ("row", (("name", "p"), ("last", "q")))),
            (("pick", A, B, ("name", "x")), ("pick", ("name", "p"), ("last", "q"), ("name", "y"))),
            (("wide", 3, A), ("wide", 3, ("name", "p"))), (("bit", 3, A), ("bit", 3, ("name", "p"))),
            (("at", 3, A), ("at", 3, ("name", "p"))), (("lit", (2, 3), (4, 5)), ("lit", (2, 3), (4, 5))),
            (("call", "x", (A, B), "x"), ("call", "x", (("name", "p"), ("last", "q")), "y")),
            (("map", "a", (A, B), "x"), ("map", "a", (("name", "p"), ("last", "q")), "y")),
            (("fold", "a", B, (A,), "x"), ("fold", "a", ("last", "q"), (("name", "p"),), "y")),
            (("pairs", "x.a", A, "x"), ("pairs", "x.a", ("name", "p"), "y")),
            (("call", "x", (), None), ("call", "x", (), None)),
        ]:
            self.assertEqual(renamed(right, names), awaited)

    def test_names_that_are_not_in_it_stay(self):
        for right in GOOD_TERMS + GOOD_CALLS:
            self.assertEqual(renamed(right, {}), right)
            self.assertEqual(renamed(right, {}, nodes={}), right)
            self.assertEqual(renamed(right, {"z": "y"}, nodes=None), right)
            self.assertIsInstance(renamed(right, {}), tuple)

    def test_names_are_called_otherwise_at_once(self):
        self.assertEqual(renamed(("add", A, B), {"a": "b", "b": "a"}), ("add", ("name", "b"), ("last", "a")))
        self.assertEqual(renamed(("add", A, B), {"a": "b", "b": "c"}), ("add", ("name", "b"), ("last", "c")))
        self.assertEqual(renamed(("add", A, B), {"a": "c", "b": "c"}), ("add", ("name", "c"), ("last", "c")))

    def test_words_are_no_names(self):
        names = {"name": "last", "not": "or", "lit": "x", "call": "map"}
        self.assertEqual(renamed(("not", ("name", "not")), names), ("not", ("name", "or")))
        self.assertEqual(renamed(("call", "call", (A,), "name"), names), ("call", "call", (A,), "last"))

    def test_nodes(self):
        nodes = {"n": "m.n", "m.n": "k", "a": "z"}
        self.assertEqual(renamed(("call", "n", (A,), "n"), {}, nodes=nodes), ("call", "m.n", (A,), "n"))
        self.assertEqual(renamed(("map", "m.n", (A,), "a"), {"a": "b"}, nodes=nodes), ("map", "k", (("name", "b"),), "b"))
        self.assertEqual(renamed(("fold", "n", A, (A,), None), {}, nodes=nodes), ("fold", "m.n", A, (A,), None))
        self.assertEqual(renamed(("pairs", "n", A, None), {}, nodes=nodes), ("pairs", "m.n", A, None))
        self.assertEqual(renamed(("pairs", "q", A, None), {}, nodes=nodes), ("pairs", "q", A, None))
        self.assertEqual(renamed(A, {}, nodes=nodes), A)

    def test_by_names(self):
        self.assertEqual(renamed(nodes={"n": "m"}, names={"a": "b"}, right=("pairs", "n", A, None)), ("pairs", "m", ("name", "b"), None))
        self.assertRaises(TypeError, renamed, A, {}, {})

    def test_no_term(self):
        for tell in (size_of, parts_of, names_in, lasts_in, firsts_in):
            for thing in any_things() + BAD_TERMS + BAD_CALLS + [list(A)]:
                self.refused(FlowError, NoTerm, thing, tell, thing)
            self.refused(FlowError, NoTerm, "x", tell, right="x")
        for thing in any_things() + BAD_TERMS + BAD_CALLS + [list(A)]:
            self.refused(FlowError, NoTerm, thing, renamed, thing, {"a": "b"})

    def test_no_names(self):
        for names in [None, True, 0, "ab", [], (), [("a", "b")], (("a", "b"),), {"A": "b"}, {"a": "B"}, {"": "b"}, {"a": ""},
                      {"a": None}, {1: "b"}, {"a": 1}, {("a",): "b"}, {"a": ["b"]}, {"abcdefghi": "a"}, {"a": "abcdefghi"},
                      {"a.b": "c"}, {"a": "b.c"}, {"a": "b", "c": None}, {None: "a"}, {"a": A}, NoNames({})]:
            self.refused(FlowError, NoNames, names, renamed, A, names)
            self.refused(FlowError, NoNames, names, renamed, ("lit", 1, 0), names, nodes={})

    def test_no_nodes(self):
        for nodes in [True, False, 0, "ab", "", [], (), [("a", "b")], {"A": "b"}, {"a": "B"}, {"": "b"}, {"a": ""}, {"a": None},
                      {1: "b"}, {"a": 1}, {"a.b.c": "d"}, {"a": "b.c.d"}, {"a.": "b"}, {"a": ".b"}, {None: "a"}, {"a": "b", "c": "."}]:
            self.refused(FlowError, NoNames, nodes, renamed, A, {}, nodes=nodes)
            self.refused(FlowError, NoNames, nodes, renamed, GOOD_CALLS[0], {"a": "b"}, nodes=nodes)

    def test_the_first_refusal_goes(self):
        right, names, nodes = ["x"], [], []
        self.refused(FlowError, NoTerm, right, renamed, right, names, nodes=nodes)
        self.refused(FlowError, NoTerm, right, renamed, nodes=nodes, names=names, right=right)
        self.refused(FlowError, NoNames, names, renamed, A, names, nodes=nodes)
        self.refused(FlowError, NoNames, nodes, renamed, A, {}, nodes=nodes)

    def test_nothing_handed_in_is_changed(self):
        names, nodes = {"a": "b", "b": "a"}, {"n": "m"}
        before = copy.deepcopy((names, nodes))
        renamed(("call", "n", (A, B), "a"), names, nodes=nodes)
        self.assertEqual((names, nodes), before)
