"""Promises 16 and 17: nodes, and what is told of them."""

from beatflows.errors import FlowError, NoNode
from beatflows.terms import blocks_of, flows_of, is_node, lets_of
from tests.helper import RefusalCase, any_things

A = ("name", "a")
LET = ("let", ("x",), A)
WAY = (A, "low", 1)
STATE = ("low", (LET,), (WAY,), ())
BLOCK = ("states", (STATE,))
OUT = ("x", 1, (), None)
NODE = ("n", (("a", 1, ()),), (OUT,), (), (LET,))


def state_of(name, *lets, strong=(), weak=()):
    return (name, lets, strong, weak)


def with_part(place, part):
    return NODE[:place] + (part,) + NODE[place + 1:]


def with_state(place, part):
    state = STATE[:place] + (part,) + STATE[place + 1:]
    return with_part(4, (("states", (state,)),))


def with_way(place, part):
    way = WAY[:place] + (part,) + WAY[place + 1:]
    return with_state(2, (way,)), with_state(3, (way,))


def shortened(thing):
    return [thing[:place] + thing[place + 1:] for place in range(len(thing))]


class Case(RefusalCase):
    def good(self, *nodes):
        for node in nodes:
            self.assertIs(is_node(node), True, node)

    def bad(self, *nodes):
        for node in nodes:
            self.assertIs(is_node(node), False, node)
            for tell in (lets_of, blocks_of, flows_of):
                self.refused(FlowError, NoNode, node, tell, node)


class IsNode(Case):
    def test_a_node(self):
        self.good(NODE)
        self.told_true(is_node(thing=NODE))

    def test_a_thing_more_or_less(self):
        self.bad(NODE + ((),), NODE + (None,), *shortened(NODE), list(NODE), ())

    def test_any_things(self):
        self.bad(*any_things())

    def test_names(self):
        self.good(*[with_part(0, name) for name in ("a", "abcdefgh", "a.b", "abcdefgh.abcdefgh")])
        self.bad(*[with_part(0, name) for name in ("", ".", "a.", ".a", "a.b.c", "a..b", "A", "a.B", "abcdefghi", "a.abcdefghi",
                                                   "a b", "a-b", None, 1, True, ("a", "b"), ["a"])])

    def test_ins(self):
        self.good(with_part(1, ()), with_part(1, (("a", (4, 8), (("b", 1), ("c", 0), ("d", 1))),)))
        self.good(with_part(1, (("a", 1, ()),) * 2), with_part(1, tuple([("a", 1, ())] * 20)))
        self.bad(with_part(1, [("a", 1, ())]), with_part(1, []), with_part(1, None), with_part(1, ("a", 1, ())))
        for flow in [("a", 1), ("a", 1, (), None), ["a", 1, ()], ("a.b", 1, ()), ("", 1, ()), (None, 1, ()), ("a", 0, ()),
                     ("a", 9, ()), ("a", True, ()), ("a", (1, 2), ()), ("a", [2, 2], ()), ("a", 1, []), ("a", 1, None),
                     ("a", 1, (("b", 2),)), ("a", 1, (("b", True),)), ("a", 1, (("b", 1), ("b", 0))), (), None, "a",
                     ("a", 1, (("b", 1), ("c", 1), ("d", 1), ("e", 1)))]:
            self.bad(with_part(1, (flow,)), with_part(1, (("a", 1, ()), flow)))

    def test_outs_and_inner_flows(self):
        self.good(with_part(3, (OUT, OUT)), with_part(2, (OUT,) * 20))
        for place in (2, 3):
            self.good(with_part(place, (("y", 3, (("b", 1),), 7),)), with_part(place, (("y", (2, 3), (), (0, 7)),)))
            self.good(with_part(place, (("y", (2, 3), (), None),)))
            self.bad(with_part(place, [OUT]), with_part(place, OUT), with_part(place, None), with_part(place, {}))
            for flow in [OUT[:3], OUT + (None,), list(OUT), ("y", 3, (), 8), ("y", 3, (), -1), ("y", 1, (), True),
                         ("y", 1, (), False), ("y", (2, 3), (), [0, 7]), ("y", (2, 3), (), (0, 8)), ("y", (2, 3), (), 0),
                         ("y", 1, (), "0"), ("y", 0, (), None), ("y", None, (), 0), ("Y", 1, (), 0), ("y", 1, [], 0), (), None,
                         ("y", 1, (), (0,)), ("y", 9, (), 0), ("y", True, (), 0), *shortened(OUT)]:
                self.bad(with_part(place, (flow,)), with_part(place, (OUT, flow)))

    def test_at_least_one_out_and_one_let(self):
        self.bad(with_part(2, ()), with_part(4, ()))
        self.good(with_part(3, ()))

    def test_lets(self):
        for let in [LET, ("let", ("x", "y", "z", "w"), A), ("let", ("x", "x"), ("call", "n", (A,), "a")),
                    ("let", ("x",), ("pairs", "m.n", A, None)), BLOCK]:
            self.good(with_part(4, (let,)), with_part(4, (LET, let)), with_part(4, (let, BLOCK)))
        self.good(with_part(4, (LET,) * 24))
        self.bad(with_part(4, [LET]), with_part(4, LET), with_part(4, BLOCK), with_part(4, None))
        for let in [(), ("let",), LET[:2], LET + (None,), list(LET), ("lets", ("x",), A), (None, ("x",), A), (("let",), ("x",), A),
                    ("let", (), A), ("let", ("x",) * 5, A), ("let", ["x"], A), ("let", "x", A), ("let", ("X",), A),
                    ("let", ("x", None), A), ("let", ("x.y",), A), ("let", ("x",), "a"), ("let", ("x",), ["name", "a"]),
                    ("let", ("x",), ("call", "n", (A,))), ("let", ("x",), None), ("let", ("x",), LET), None, "let", A,
                    ("states", ("x",), A), *shortened(LET)]:
            self.bad(with_part(4, (let,)), with_part(4, (LET, let)), with_state(1, (let,)), with_state(1, (LET, let)))

    def test_blocks(self):
        self.good(*[with_part(4, (("states", (STATE,) * many),)) for many in range(1, 5)])
        self.bad(*[with_part(4, (("states", (STATE,) * many),)) for many in (0, 5)])
        for block in [("states",), ("states", [STATE]), ("states", STATE), ["states", (STATE,)], ("state", (STATE,)),
                      ("states", (STATE,), ()), ("states", None), ("states", (None,)), ("states", (STATE, LET)), ("let", (STATE,)),
                      (None, (STATE,)), ((STATE,),)]:
            self.bad(with_part(4, (block,)), with_part(4, (LET, block)))

    def test_states(self):
        self.good(with_state(0, "abcdefgh"), with_state(1, (LET, LET)), with_state(2, ()), with_state(3, (WAY,) * 4))
        self.good(with_state(2, (WAY,) * 4))
        self.bad(*[with_state(0, name) for name in ("", "A", "abcdefghi", "a.b", None, 1, ("low",))])
        self.bad(with_state(1, ()), with_state(1, [LET]), with_state(1, LET), with_state(1, (BLOCK,)), with_state(1, None))
        for place in (2, 3):
            self.bad(with_state(place, (WAY,) * 5), with_state(place, [WAY]), with_state(place, []), with_state(place, WAY))
            self.bad(with_state(place, None), with_state(place, (WAY, None)), with_state(place, (WAY, LET)))
        self.bad(*[with_part(4, (("states", (state,)),)) for state in shortened(STATE)])
        self.bad(with_part(4, (("states", (STATE + ((),),)),)), with_part(4, (("states", (list(STATE),)),)))

    def test_ways(self):
        self.good(*with_way(0, ("not", A)), *with_way(1, "unknown"), *with_way(2, 0), *with_way(2, 1))
        for condition in ["a", None, ("name", "A"), ("call", "n", (), None), ["name", "a"], 1, True]:
            self.bad(*with_way(0, condition))
        for goal in ["", "A", "a.b", "abcdefghi", None, 0, A]:
            self.bad(*with_way(1, goal))
        for anew in [2, -1, True, False, None, "1", (1,)]:
            self.bad(*with_way(2, anew))
        for way in [*shortened(WAY), WAY + (0,), list(WAY), (), None]:
            self.bad(with_state(2, (way,)), with_state(3, (way,)), with_state(2, (WAY, way)), with_state(3, (WAY, way)))


B = ("last", "b")
LETS = [("let", (name,), B) for name in "pqrstuv"]
UP = (A, "up", 0)
STATES_ONE = (state_of("low", LETS[1], LETS[2], strong=(WAY,)), state_of("up", LETS[3], weak=(UP,)))
STATES_TWO = (state_of("low", LETS[5]),)
MIXED = (
    "m.n",
    (("a", 1, ()), ("b", (2, 3), (("a", 1),))),
    (("x", (2, 3), (), (1, 2)), ("y", 8, (("a", 0),), None)),
    (("z", 1, (), 0),),
    (LETS[0], ("states", STATES_ONE), LETS[4], ("states", STATES_TWO), ("let", ("x", "y"), ("call", "k", (A,), None))),
)


class Told(Case):
    def test_lets_by_their_numbers(self):
        self.assertEqual(lets_of(MIXED), [
            (0, -1, -1, ("p",), B), (1, 0, 0, ("q",), B), (2, 0, 0, ("r",), B), (3, 0, 1, ("s",), B), (4, -1, -1, ("t",), B),
            (5, 1, 0, ("u",), B), (6, -1, -1, ("x", "y"), ("call", "k", (A,), None)),
        ])

    def test_lets_and_blocks_of_a_node_without_blocks(self):
        self.assertEqual(lets_of(NODE), [(0, -1, -1, ("x",), A)])
        self.assertEqual(blocks_of(NODE), [])

    def test_blocks(self):
        self.assertEqual(blocks_of(MIXED), [STATES_ONE, STATES_TWO])

    def test_flows_in_their_order(self):
        self.assertEqual(list(flows_of(MIXED).items()), [
            ("a", (1, (), None)), ("b", ((2, 3), (("a", 1),), None)), ("x", ((2, 3), (), (1, 2))), ("y", (8, (("a", 0),), None)),
            ("z", (1, (), 0)),
        ])

    def test_of_a_name_that_stands_twice_the_first(self):
        node = ("n", (("a", 1, ()), ("a", 2, ())), (("x", 3, (), 5), ("a", 3, (), 5)), (("x", 4, (), 6), ("y", 5, (), 7), ("y", 6, (), 8)),
                (LET,))
        self.good(node)
        self.assertEqual(list(flows_of(node).items()), [("a", (1, (), None)), ("x", (3, (), 5)), ("y", (5, (), 7))])

    def test_told_ones_are_new(self):
        lets_of(MIXED).clear()
        blocks_of(MIXED).clear()
        flows_of(MIXED).clear()
        self.assertEqual((len(lets_of(MIXED)), len(blocks_of(MIXED)), len(flows_of(MIXED))), (7, 2, 5))
        for tell in (lets_of, blocks_of, flows_of):
            self.assertIsNot(tell(MIXED), tell(MIXED))
            self.assertEqual(tell(MIXED), tell(node=MIXED))

    def test_told_kinds_of_values(self):
        self.assertIs(type(lets_of(MIXED)), list)
        self.assertTrue(all(type(let) is tuple for let in lets_of(MIXED)))
        self.assertIs(type(blocks_of(MIXED)), list)
        self.assertTrue(all(type(block) is tuple for block in blocks_of(MIXED)))
        self.assertIs(type(flows_of(MIXED)), dict)
