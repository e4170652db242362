"""Promises 2, 11, 12 and 13: numbers, names, kinds, worths, clocks, bits and reckoning."""

import unittest

from beatflows.errors import FlowError, NoBits, NoKind, NoNumber, NoOp, NoWidth, NoWorth, NoWorths
from beatflows.kinds import WORDS, bits_of, is_clock, is_kind, is_name, is_whole, is_worth, of_bits, reckoned
from tests.helper import RefusalCase, any_things

WIDTHS = range(1, 9)
NO_NUMBERS = [None, True, False, "1", "", [], [1], (), (1,), {}, {1: 1}, NoKind(1)]
WORDS_OF_ONE = ["not", "wide", "bit"]
WORDS_OF_TWO = ["and", "or", "xor", "add", "sub", "less", "same"]


class Wholes(RefusalCase):
    def test_the_ends_count_and_one_beyond_does_not(self):
        for low, high in [(0, 1), (1, 8), (-5, -2), (3, 3), (-(10 ** 29), 10 ** 29)]:
            self.told_true(is_whole(low, low, high))
            self.told_true(is_whole(high, low, high))
            self.told_false(is_whole(low - 1, low, high))
            self.told_false(is_whole(high + 1, low, high))

    def test_nothing_lies_between_where_low_is_the_greater_one(self):
        for thing in range(-1, 5):
            self.told_false(is_whole(thing, 3, 1))

    def test_true_and_false_are_none(self):
        self.told_false(is_whole(True, 0, 1))
        self.told_false(is_whole(False, 0, 1))
        self.told_false(is_whole(True, -9, 9))

    def test_things_of_other_kinds_are_none(self):
        for thing in NO_NUMBERS:
            self.told_false(is_whole(thing, -9, 9))

    def test_by_names(self):
        self.told_true(is_whole(high=4, low=2, thing=3))


class Names(RefusalCase):
    def test_one_to_eight_small_letters(self):
        for thing in ["a", "z", "az", "abcdefgh", "zzzzzzzz"]:
            self.told_true(is_name(thing))
        self.told_true(is_name(thing="mid"))

    def test_too_short_and_too_long(self):
        for thing in ["", "abcdefghi", "a" * 60, "a" * 6000]:
            self.told_false(is_name(thing))

    def test_other_signs(self):
        for sign in "AZ`{ 09_.-\n\t~\u00e4\u00df\u0430\uff41\u00aa":
            for thing in [sign, "a" + sign, sign + "a", "a" + sign + "b"]:
                self.told_false(is_name(thing))

    def test_things_of_other_kinds(self):
        for thing in [None, True, False, 0, 1, ["a"], ("a",), ("a", "b"), {"a": 1}, NoKind("a"), []]:
            self.told_false(is_name(thing))


class Kinds(RefusalCase):
    def test_widths(self):
        for width in WIDTHS:
            self.told_true(is_kind(width))
        for thing in [0, 9, -1, 10 ** 29, True, False]:
            self.told_false(is_kind(thing))

    def test_rows(self):
        for many in range(-1, 7):
            for width in range(-1, 11):
                self.assertIs(is_kind((many, width)), 2 <= many <= 4 and 1 <= width <= 8)

    def test_a_row_is_a_tuple_of_just_two_numbers(self):
        for thing in [[2, 3], (), (2,), (2, 3, 1), (2, True), (True, 3), (2, False), ("2", 3), (2, "3"), ((2, 3), 3),
                      (2, (2, 3)), ([2], 3), (2, None), {2: 3}, "23"]:
            self.told_false(is_kind(thing))

    def test_by_name(self):
        self.told_true(is_kind(thing=(4, 8)))


class Worths(RefusalCase):
    def test_worths_of_widths(self):
        for width in WIDTHS:
            for thing in [-1, 0, 1, 2 ** width - 1, 2 ** width, 2 ** width + 1, 10 ** 29]:
                self.assertIs(is_worth(thing, width), 0 <= thing < 2 ** width)
            for thing in [True, False, None, "0", [0], (0,), (0, 0), {}]:
                self.told_false(is_worth(thing, width))

    def test_worths_of_rows(self):
        for many in (2, 3, 4):
            for width in WIDTHS:
                top = 2 ** width - 1
                self.told_true(is_worth((top,) * many, (many, width)))
                self.told_true(is_worth((0,) * (many - 1) + (top,), (many, width)))
                self.told_false(is_worth((0,) * (many - 1) + (top + 1,), (many, width)))
                self.told_false(is_worth((-1,) + (0,) * (many - 1), (many, width)))
                self.told_false(is_worth((0,) * (many - 1), (many, width)))
                self.told_false(is_worth((0,) * (many + 1), (many, width)))
                self.told_false(is_worth([0] * many, (many, width)))
                self.told_false(is_worth((True,) + (0,) * (many - 1), (many, width)))
                self.told_false(is_worth(0, (many, width)))

    def test_no_row_is_of_things_of_other_kinds(self):
        for thing in any_things():
            self.told_false(is_worth(thing, (2, 3)))
        for thing in [None, True, False, "0", [0], (0,), {}, NoKind(0)]:
            self.told_false(is_worth((0, thing), (2, 3)))
            self.told_false(is_worth((thing, 0), (2, 3)))

    def test_what_is_no_kind_is_refused_first(self):
        for kind in [0, 9, True, False, None, [2, 3], (1, 3), (5, 3), (2, 9), (), "1", {}, NoKind(1), [1]]:
            self.refused(FlowError, NoKind, kind, is_worth, 0, kind)
            self.refused(FlowError, NoKind, kind, is_worth, None, kind)
            self.refused(FlowError, NoKind, kind, is_worth, kind=kind, thing=[])

    def test_by_names(self):
        self.told_true(is_worth(kind=3, thing=7))
        self.told_false(is_worth(kind=7, thing=[3]))


class Clocks(RefusalCase):
    def test_none_to_three_conditions(self):
        self.told_true(is_clock(()))
        self.told_true(is_clock((("a", 0),)))
        self.told_true(is_clock((("a", 1), ("b", 0))))
        self.told_true(is_clock((("a", 1), ("b", 1), ("abcdefgh", 0))))
        self.told_false(is_clock((("a", 1), ("b", 1), ("c", 0), ("d", 0))))
        self.told_true(is_clock(thing=()))

    def test_no_name_twice(self):
        self.told_false(is_clock((("a", 1), ("a", 0))))
        self.told_false(is_clock((("a", 1), ("a", 1))))
        self.told_false(is_clock((("a", 1), ("b", 1), ("a", 1))))
        self.told_false(is_clock((("b", 0), ("a", 1), ("a", 1))))

    def test_tuples_alone(self):
        for thing in [[], [("a", 1)], (["a", 1],), ("a", 1), {}, {"a": 1}, "", "a"]:
            self.told_false(is_clock(thing))

    def test_conditions_that_are_none(self):
        for condition in [(), ("a",), ("a", 1, 1), (1, "a"), ("a", True), ("a", False), ("a", 2), ("a", -1), ("a", None),
                          ("A", 1), ("", 1), ("abcdefghi", 1), ("a.b", 1), (None, 1), (["a"], 1), ("a", [1]), None, 1]:
            self.told_false(is_clock((condition,)))
            self.told_false(is_clock((("x", 0), condition)))
            self.told_false(is_clock((condition, ("x", 0))))


class AnyThings(RefusalCase):
    def test_what_is_none_is_told_so(self):
        for thing in any_things():
            self.assertIs(is_name(thing), thing in ("lit", "not") and isinstance(thing, str))
            self.told_false(is_kind(thing))
            self.told_false(is_clock(thing))
            self.told_false(is_whole(thing, 1, 8))


class Bits(RefusalCase):
    def test_bits_of_all_worths_the_lowest_first(self):
        for width in WIDTHS:
            for worth in range(2 ** width):
                bits = bits_of(width, worth)
                self.assertEqual(bits, [int(sign) for sign in reversed(format(worth, "b").zfill(width))])
                self.assertIsInstance(bits, list)
                self.assertTrue(all(type(bit) is int for bit in bits))

    def test_worths_of_all_bits(self):
        for width in WIDTHS:
            for worth in range(2 ** width):
                self.assertEqual(of_bits(bits_of(width, worth)), worth)
                self.assertEqual(of_bits(tuple(bits_of(width, worth))), worth)

    def test_by_hand(self):
        self.assertEqual(bits_of(3, 6), [0, 1, 1])
        self.assertEqual(bits_of(worth=1, width=4), [1, 0, 0, 0])
        self.assertEqual(of_bits([0, 1, 1]), 6)
        self.assertEqual(of_bits(bits=(1, 0, 0, 0)), 1)

    def test_no_width(self):
        for width in [*NO_NUMBERS, 0, 9, -1, (2, 3), 10 ** 29]:
            self.refused(FlowError, NoWidth, width, bits_of, width, 0)

    def test_no_worth(self):
        for worth in [*NO_NUMBERS, -1, 8, 10 ** 29]:
            self.refused(FlowError, NoWorth, worth, bits_of, 3, worth)

    def test_the_width_is_looked_at_ahead_of_the_worth(self):
        width, worth = [9], [None]
        self.refused(FlowError, NoWidth, width, bits_of, width, worth)
        self.refused(FlowError, NoWidth, width, bits_of, worth=worth, width=width)

    def test_no_bits(self):
        for bits in [[], (), [0] * 9, (1,) * 9, [2], [-1], [0, True], [False], (True,), ["1"], [None], [[1]], [1, 0, 2],
                     None, True, 1, 0, "1", "", {}, {0: 1}, NoBits([1])]:
            self.refused(FlowError, NoBits, bits, of_bits, bits)

    def test_one_and_eight_are_bits(self):
        self.assertEqual(of_bits([1]), 1)
        self.assertEqual(of_bits([1] * 8), 255)

    def test_lists_are_new_and_none_is_changed(self):
        told = bits_of(2, 3)
        told.append(9)
        self.assertEqual(bits_of(2, 3), [1, 1])
        bits = [1, 0]
        of_bits(bits)
        self.assertEqual(bits, [1, 0])


class Reckoning(RefusalCase):
    def came(self, awaited, *things, **more):
        worth = reckoned(*things, **more)
        self.assertEqual(worth, awaited, (things, more))
        self.assertIs(type(worth), int)

    def test_the_words(self):
        self.assertEqual(WORDS, ("not", "and", "or", "xor", "add", "sub", "less", "same", "wide", "bit"))
        self.assertIsInstance(WORDS, tuple)

    def test_words_of_two_for_all_worths(self):
        for width in (1, 2, 3, 8):
            many = 2 ** width
            for a in range(0, many, 1 if width < 8 else 17):
                for b in range(0, many, 1 if width < 8 else 15):
                    self.came(a & b, "and", width, [a, b])
                    self.came(a | b, "or", width, [a, b])
                    self.came(a ^ b, "xor", width, [a, b])
                    self.came((a + b) % many, "add", width, [a, b])
                    self.came((a - b) % many, "sub", width, [a, b])
                    self.came(int(a < b), "less", width, [a, b])
                    self.came(int(a == b), "same", width, [a, b])

    def test_words_of_one_for_all_worths(self):
        for width in WIDTHS:
            for a in range(2 ** width):
                self.came(2 ** width - 1 - a, "not", width, [a])
                self.came(a % 2, "wide", width, [a])
                self.came(a % 2, "bit", width, [a])
                for to in WIDTHS:
                    self.came(a % 2 ** to, "wide", width, [a], to=to)
                for at in range(width):
                    self.came(a // 2 ** at % 2, "bit", width, [a], at=at)

    def test_by_hand(self):
        self.came(4, "sub", 3, [1, 5])
        self.came(0, "add", 8, (255, 1))
        self.came(0b101, "not", 3, (0b010,))
        self.came(0b0101, "wide", 3, [0b101], to=8)
        self.came(6, width=3, worths=[2, 4], word="add")

    def test_no_word(self):
        for word in ["", "nor", "NOT", "not ", "lit", "first", None, True, 0, [], ["not"], ("not",), {"not": 1}, NoOp(1)]:
            self.refused(FlowError, NoOp, word, reckoned, word, 1, [0])

    def test_no_width(self):
        for width in [*NO_NUMBERS, 0, 9, -1, (2, 3)]:
            for word in WORDS:
                self.refused(FlowError, NoWidth, width, reckoned, word, width, [0])

    def test_as_many_worths_as_the_word_wants(self):
        for word in WORDS:
            for many in range(4):
                wanted = 1 if word in WORDS_OF_ONE else 2
                worths = [0] * many
                if many == wanted:
                    self.assertIn(reckoned(word, 2, worths), (0, 1, 3))
                else:
                    self.refused(FlowError, NoWorths, worths, reckoned, word, 2, worths)

    def test_no_worths(self):
        for worth in [*NO_NUMBERS, -1, 4]:
            for word in WORDS_OF_ONE:
                worths = [worth]
                self.refused(FlowError, NoWorths, worths, reckoned, word, 2, worths)
            for word in WORDS_OF_TWO:
                for worths in ([0, worth], [worth, 0], (worth, worth)):
                    self.refused(FlowError, NoWorths, worths, reckoned, word, 2, worths)
        for worths in [None, True, 0, 1, "0", "", {}, {0: 0}, {0: 0, 1: 1}, NoWorths([0])]:
            for word in WORDS:
                self.refused(FlowError, NoWorths, worths, reckoned, word, 2, worths)

    def test_to_is_a_width(self):
        for to in [*NO_NUMBERS, 0, 9, -1, (2, 3)]:
            self.refused(FlowError, NoWidth, to, reckoned, "wide", 2, [0], to=to)

    def test_at_lies_below_the_width(self):
        for width in WIDTHS:
            for at in [*NO_NUMBERS, -1, width, 99]:
                self.refused(FlowError, NoNumber, at, reckoned, "bit", width, [0], at=at)

    def test_to_and_at_are_looked_at_for_their_words_alone(self):
        for thing in [None, "x", [], 99]:
            for word in WORDS:
                worths = [1] if word in WORDS_OF_ONE else [1, 2]
                if word != "wide":
                    self.assertEqual(reckoned(word, 3, worths, to=thing), reckoned(word, 3, worths))
                if word != "bit":
                    self.assertEqual(reckoned(word, 3, worths, at=thing), reckoned(word, 3, worths))

    def test_the_first_refusal_goes(self):
        bad = [None]
        self.refused(FlowError, NoOp, bad, reckoned, bad, None, None, to=None, at=None)
        self.refused(FlowError, NoWidth, bad, reckoned, "wide", bad, None, to=None, at=None)
        self.refused(FlowError, NoWorths, bad, reckoned, "wide", 1, bad, to=None, at=None)
        self.refused(FlowError, NoWorths, bad, reckoned, "bit", 1, bad, to=None, at=None)
        self.refused(FlowError, NoWidth, bad, reckoned, "wide", 1, [0], to=bad, at=None)
        self.refused(FlowError, NoNumber, bad, reckoned, "bit", 1, [0], to=None, at=bad)

    def test_to_and_at_are_handed_in_by_their_names_alone(self):
        self.assertRaises(TypeError, reckoned, "wide", 1, [0], 1)

    def test_worths_are_not_changed(self):
        worths = [3, 2]
        for word in WORDS_OF_TWO:
            reckoned(word, 2, worths)
            self.assertEqual(worths, [3, 2])


if __name__ == "__main__":
    unittest.main()
