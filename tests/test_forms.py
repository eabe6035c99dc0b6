"""What expressions and conditions have in common, and how conditions are put together [52]."""

import unittest

from innerasks.forms import ALWAYS, columns_in, conjuncts, divided, joined, renumbered
from innerasks.trees import parts_of, rebuilt

A, B, C = ("truth", 1), ("null", ("column", 2)), ("=", ("column", 3), ("column", 1))


class Conditions(unittest.TestCase):
    def test_joined(self):
        for conditions, told in [
            ((A, B), ("and", (A, B))), ((A, ALWAYS), A), ((ALWAYS, A), A), ((ALWAYS, ALWAYS), ALWAYS), ((), ALWAYS), ((A,), A),
            ((("and", (A, B)), C), ("and", (A, B, C))), ((C, ("and", (A, B))), ("and", (C, A, B))), ((("and", (A,)), ALWAYS), A),
            ((("or", (A, B)), C), ("and", (("or", (A, B)), C))), ((("and", (("and", (A, B)), C)),), ("and", (("and", (A, B)), C))),
            ((A, B, C, A), ("and", (A, B, C, A))),
        ]:
            self.assertEqual(told, joined(*conditions))

    def test_conjuncts(self):
        self.assertEqual((A, B), conjuncts(("and", (A, B))))
        self.assertEqual((), conjuncts(ALWAYS))
        self.assertEqual((A,), conjuncts(A))
        self.assertEqual((("or", (A, B)),), conjuncts(("or", (A, B))))

    def test_divided(self):
        self.assertEqual(([B], [A, C]), divided(("and", (A, B, C)), (1,)))
        self.assertEqual(([A], []), divided(A, (2, 3)))
        self.assertEqual(([], [B]), divided(B, (2, 3)))
        self.assertEqual(([], []), divided(ALWAYS, (1,)))


class Trees(unittest.TestCase):
    TREES = [
        A, B, C, ("and", (A, B)), ("or", ()), ("not", A), ("coalesce", (("column", 1), ("value", "column"))), ("param", "p"), ("value", 3),
        ("case", ((A, ("column", 4)), (B, ("value", 1))), ("column", 5)), ("+", ("column", 6), ("param", "q")), ("is", ("value", None), ("column", 1)),
        ("in", ("at", 0, 1), ("select",)), ("any", "<", ("at", 0, 1), ("select",)), ("one", ("select",)), ("exists", ("select",)),
    ]

    def test_rebuilt(self):
        for tree in self.TREES:
            self.assertEqual(tree, rebuilt(tree, parts_of(tree)))
            told = [("value", index) for index, _ in enumerate(parts_of(tree))]
            self.assertEqual(told, parts_of(rebuilt(tree, told)))
            self.assertEqual(tree[0], rebuilt(tree, told)[0])

    def test_columns(self):
        for tree, columns in zip(self.TREES, [{1}, {2}, {1, 3}, {1, 2}, set(), {1}, {1}, set(), set(), {1, 2, 4, 5}, {6}, {1}]):
            self.assertEqual(columns, set(columns_in(tree)))
            self.assertEqual(len(columns), len(columns_in(tree)))
            moved = renumbered(tree, {1: 11, 2: 12, 4: 14})
            self.assertEqual({{1: 11, 2: 12, 4: 14}.get(column, column) for column in columns}, set(columns_in(moved)))
            self.assertEqual(tree, renumbered(moved, {11: 1, 12: 2, 14: 4}))


if __name__ == "__main__":
    unittest.main()
