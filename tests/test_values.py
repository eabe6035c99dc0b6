"""Values, rows, bags [10], truths and comparisons [11], sums and aggregates [12]."""

import itertools
import unittest

from innerasks.values import (
    aggregate, both, compare, either, in_order, is_row, is_value, kind_of, negated, reckon, same,
)
from samples import NO_TEXTS

PERCENT = chr(37)
TRUTHS = (True, False, None)
# In the order of [10].
ORDERED = [None, -10 ** 59, -2, -1, 0, 1, 2, 10, 10 ** 59, "", " ", " a", "10", "9", "A", "Z", "a", "aa", "ab", "b", "~"]
HOLDS = {
    "=": lambda one, other: one == other, "<>": lambda one, other: one != other,
    "<": lambda one, other: one < other, "<=": lambda one, other: one <= other,
    ">": lambda one, other: one > other, ">=": lambda one, other: one >= other,
}


class IsValue(unittest.TestCase):
    def check(self, expected, *things):
        for thing in things:
            self.assertIs(expected, is_value(thing), thing)
            self.assertIs(expected, is_row((thing,)), thing)
            self.assertIs(expected, is_row((1, thing, "a")), thing)

    def test_null_and_integers(self):
        self.check(True, None, 0, 1, -1, 7, 10 ** 59, -10 ** 59)

    def test_bools(self):
        self.check(False, True, False)

    def test_lengths_of_texts(self):
        self.check(True, "", "a", "a" * 39, "a" * 40, "'" * 40)
        self.check(False, "a" * 41, "'" * 41, "a" * 1000)

    def test_characters(self):
        for number in range(200):
            self.check(32 <= number <= 126 and number != 37, chr(number), "a" + chr(number), chr(number) + "a")
        self.check(True, " ", "~", "$", "&", "!", "}", "it's", "select", "A b")
        self.check(False, PERCENT, "\x1f", "\x7f", "\n", "\t", "é", "a\u0301", "\u2000")

    def test_other_things(self):
        things = [thing for thing in NO_TEXTS if thing is not None and type(thing) is not int]
        self.check(False, *things, b"a", 1.0)

    def test_rows(self):
        for row in [(), (None,), (1,), ("a",), (1, None, "a"), ("x",) * 10]:
            self.assertIs(True, is_row(row), row)
        for thing in [[], [1], [1, "a"], None, 1, "a", "", {}, {1: 1}, ((1,),), ([1],), (1, True), (1, PERCENT)]:
            self.assertIs(False, is_row(thing), thing)
        for thing in NO_TEXTS:
            if not isinstance(thing, tuple):
                self.assertIs(False, is_row(thing), thing)

    def test_kinds(self):
        self.assertIsNone(kind_of(None))
        for number in (0, -1, 10 ** 59):
            self.assertEqual("whole", kind_of(number))
        for text in ("", "a", "1", "null"):
            self.assertEqual("text", kind_of(text))


class Comparisons(unittest.TestCase):
    def test_same(self):
        for (i, one), (j, other) in itertools.product(enumerate(ORDERED), repeat=2):
            self.assertIs(i == j, same(one, other), (one, other))

    def test_signs_by_the_order(self):
        for sign, holds in HOLDS.items():
            for (i, one), (j, other) in itertools.product(enumerate(ORDERED), repeat=2):
                if one is not None and other is not None:
                    self.assertIs(holds(i, j), compare(sign, one, other), (sign, one, other))

    def test_null_on_each_side(self):
        for sign in HOLDS:
            for value in ORDERED:
                self.assertIsNone(compare(sign, None, value))
                self.assertIsNone(compare(sign, value, None))

    def test_is(self):
        for one, other in itertools.product(ORDERED, repeat=2):
            self.assertIs(same(one, other), compare("is", one, other))

    def test_integers_come_ahead_of_texts(self):
        self.assertIs(True, compare("<", 10, "1"))
        self.assertIs(False, compare("=", 1, "1"))
        self.assertIs(True, compare("<>", 1, "1"))
        self.assertIs(True, compare(">=", "", 10 ** 59))


class Truths(unittest.TestCase):
    def test_negated(self):
        self.assertEqual([False, True, None], [negated(truth) for truth in TRUTHS])

    def test_no_truth(self):
        self.assertIs(True, both())
        self.assertIs(False, either())

    def test_each_truth(self):
        for truth in TRUTHS:
            self.assertIs(truth, both(truth))
            self.assertIs(truth, either(truth))

    def test_several_truths(self):
        for many in (2, 3):
            for truths in itertools.product(TRUTHS, repeat=many):
                expected = False if False in truths else None if None in truths else True
                self.assertIs(expected, both(*truths), truths)
                expected = True if True in truths else None if None in truths else False
                self.assertIs(expected, either(*truths), truths)


class InOrder(unittest.TestCase):
    def test_order_of_values(self):
        rows = [(value,) for value in ORDERED]
        self.assertEqual(rows, in_order(rows[::-1]))
        self.assertEqual(rows, in_order(rows[1::2] + rows[::2]))

    def test_first_values_that_differ(self):
        rows = [(None, None), (None, 0), (0, None), (0, 5), (0, "a"), (1, -7), ("", 9), ("a", None), ("ab", None),
                ("b", None)]
        for shift in range(len(rows)):
            self.assertEqual(rows, in_order(rows[shift:] + rows[:shift]))

    def test_every_arrangement(self):
        rows = [(None, 1), (1, "a"), (1, "b"), ("a", None)]
        for told in itertools.permutations(rows):
            self.assertEqual(rows, in_order(list(told)))

    def test_like_rows_stay(self):
        self.assertEqual([(1,), (1,), (2,), (2,), (2,)], in_order([(2,), (1,), (2,), (1,), (2,)]))
        self.assertEqual([(), ()], in_order([(), ()]))

    def test_texts_that_begin_alike(self):
        texts = ["a", "a ", "a a", "aZ", "aa", "aaa", "ab", "b"]
        self.assertEqual([(text, 1) for text in texts], in_order([(text, 1) for text in reversed(texts)]))

    def test_what_is_passed_stays(self):
        rows = [(2,), (1,), (None,)]
        bag = in_order(rows)
        self.assertEqual([(2,), (1,), (None,)], rows)
        self.assertIsNot(bag, rows)
        ordered = [(1,), (2,)]
        self.assertIsNot(ordered, in_order(ordered))
        self.assertEqual([(1,), (2,)], in_order(((2,), (1,))))
        self.assertIsInstance(in_order(()), list)
        self.assertEqual([], in_order([]))


class Sums(unittest.TestCase):
    def test_integers(self):
        for one, other in itertools.product((-3, 0, 1, 10 ** 59), repeat=2):
            self.assertEqual(one + other, reckon("+", one, other))
            self.assertEqual(one - other, reckon("-", one, other))
            self.assertEqual(one * other, reckon("*", one, other))

    def test_a_side_that_is_no_integer(self):
        for sign in "+-*":
            for value in (None, "", "a", "1"):
                for other in (None, 0, 2, "a"):
                    self.assertIsNone(reckon(sign, value, other))
                    self.assertIsNone(reckon(sign, other, value))


class Aggregates(unittest.TestCase):
    def check(self, values, count, different, total, least, most):
        for told in (list(values), tuple(values), list(values)[::-1]):
            self.assertEqual(count, aggregate("count", told))
            self.assertEqual(count, aggregate("count", told, distinct=False))
            self.assertEqual(different, aggregate("count", told, distinct=True))
            for distinct in (False, True):
                self.assertEqual(total, aggregate("sum", told, distinct=distinct))
                self.assertEqual(least, aggregate("least", told, distinct=distinct))
                self.assertEqual(most, aggregate("most", told, distinct=distinct))
            self.assertEqual(total, aggregate("sum", told))
            self.assertEqual(least, aggregate("least", told))
            self.assertEqual(most, aggregate("most", told))

    def test_no_values(self):
        self.check([], 0, 0, None, None, None)

    def test_nulls_alone(self):
        self.check([None], 0, 0, None, None, None)
        self.check([None, None], 0, 0, None, None, None)

    def test_integers(self):
        self.check([3, 1, 3, -2], 4, 3, 5, -2, 3)
        self.check([0], 1, 1, 0, 0, 0)
        self.check([1, -1], 2, 2, 0, -1, 1)

    def test_texts_alone(self):
        self.check(["b", "a", "b", "ab"], 4, 3, None, "a", "b")
        self.check([""], 1, 1, None, "", "")

    def test_both_kinds(self):
        self.check(["a", 2, None, 2, "a", 10], 5, 3, 14, 2, "a")
        self.check([5, "4"], 2, 2, 5, 5, "4")

    def test_nulls_between(self):
        self.check([None, 4, None, 1], 2, 2, 5, 1, 4)

    def test_what_is_passed_stays(self):
        values = [3, None, 1]
        for word in ("count", "sum", "least", "most"):
            aggregate(word, values, distinct=True)
        self.assertEqual([3, None, 1], values)


if __name__ == "__main__":
    unittest.main()
