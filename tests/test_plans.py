"""Plans: their nodes, columns, parts and what is free [40 to 42], and what can be done with all of them."""

import unittest

from innerasks.errors import InvalidPlan, NoPlace
from innerasks.lotplans import First, Group, Number
from innerasks.pairplans import Depend, Except, Intersect, Join, Union
from innerasks.plans import Compute, Distinct, Filter, Keep, Plan, Rows, Scan
from samples import ANYTHING

ALWAYS = ("and", ())
T = Scan("t", (1, 2, 3))
U = Scan("u", (4, 5))


def column(number):
    return ("column", number)


def equal(one, other):
    return ("=", column(one), column(other))


def sample_plans():
    """A plan of each class and kind; free are 7 and 8."""
    uses = ("=", column(1), column(7))
    pair = equal(1, 4)
    return [
        Rows((1, 2), [(1, "a"), (None, None)]), Rows((), [(), ()]), Rows((), ()), T, Scan("t", ()),
        Filter(T, uses), Compute(T, [(6, column(7)), (4, ("truth", 8))]), Compute(T, ()), Keep(T, (3, 1)), Keep(T, ()),
        Distinct(Filter(T, uses)), Number(T, 4, (1,)), Number(T, 4), Group(T, (1,), [(2, ("sum", column(7)))]),
        Group(T, (), [(1, ("count", None, False)), (2, ("count", column(2), True)), (3, ("least", column(8)))]),
        First(T, [(1, True), (2, False)], 3), First(T, (), None, (1, 2)),
        Union(T, T, (1, 2, 3)), Except(T, Filter(T, uses), (4, 5, 6)), Intersect(Filter(T, uses), T, (1, 4, 2)),
        *[Join(kind, T, U, pair) for kind in ("inner", "left", "full", "semi", "anti", "single")],
        Join("mark", T, U, ("and", (pair, uses)), 6), Join("mark", T, U, pair, 4),
        *[Depend(kind, T, Filter(U, ("and", (pair, ("=", column(7), column(4))))), ALWAYS)
          for kind in ("inner", "left", "semi", "anti", "single")],
        Depend("mark", T, Filter(U, pair), ("=", column(5), column(8)), 6),
    ]


class Nodes(unittest.TestCase):
    def check(self, node, columns, parts=(), free=(), **fields):
        self.assertIsInstance(node, Plan)
        self.assertEqual(columns, node.columns)
        self.assertEqual(parts, node.parts)
        self.assertIsInstance(node.parts, tuple)
        self.assertEqual(free, node.free)
        self.assertEqual(1 + sum(len(part) for part in parts), len(node))
        for name, value in fields.items():
            self.assertEqual(value, getattr(node, name), name)
            self.assertIs(type(value), type(getattr(node, name)), name)

    def test_rows(self):
        self.check(Rows([2, 1], [(1, "a"), (None, "")]), (2, 1), rows=((1, "a"), (None, "")))
        self.check(Rows((), ()), (), rows=())
        self.check(Rows((), [(), ()]), (), rows=((), ()))
        self.check(Rows((1,), ()), (1,), rows=())

    def test_scan(self):
        self.check(Scan("t", [3, 1]), (3, 1), table="t")
        self.check(Scan("abcdefghijkl", ()), (), table="abcdefghijkl")

    def test_filter(self):
        condition = ("and", (equal(1, 7), ("not", ("truth", 9)), ("null", column(2))))
        self.check(Filter(T, condition), (1, 2, 3), (T,), (7, 9), plan=T, condition=condition)

    def test_compute(self):
        made = [(9, ("+", column(1), column(10))), (4, ("<", column(2), column(8))), (5, ("truth", 7))]
        self.check(Compute(T, made), (1, 2, 3, 9, 4, 5), (T,), (7, 8, 10), plan=T, made=tuple(made))
        self.check(Compute(T, []), (1, 2, 3), (T,), made=())

    def test_keep_and_distinct(self):
        plan = Filter(T, equal(1, 7))
        self.check(Keep(plan, [3, 1]), (3, 1), (plan,), (7,), plan=plan)
        self.check(Keep(plan, []), (), (plan,), (7,))
        self.check(Distinct(plan), (1, 2, 3), (plan,), (7,), plan=plan)

    def test_number(self):
        plan = Filter(T, equal(1, 7))
        self.check(Number(plan, 4, [2, 1]), (1, 2, 3, 4), (plan,), (7,), plan=plan, column=4, by=(2, 1))
        self.check(Number(T, 9999), (1, 2, 3, 9999), (T,), column=9999, by=())

    def test_group(self):
        made = [(2, ("sum", column(2))), (9, ("count", ("+", column(7), column(3)), True)), (1, ("count", None, False))]
        # The columns that are left out are free to be used again.
        self.check(Group(T, [3], made), (3, 2, 9, 1), (T,), (7,), plan=T, by=(3,), made=tuple(made))
        self.check(Group(T, (), ()), (), (T,), by=(), made=())

    def test_first(self):
        self.check(First(T, [(2, True), (1, False)], 3, [1]), (1, 2, 3), (T,), plan=T, order=((2, True), (1, False)), n=3,
                   by=(1,))
        self.check(First(T, [], None), (1, 2, 3), (T,), order=(), by=())
        self.assertIsNone(First(T, [], None).n)
        self.assertEqual(0, First(T, [], 0).n)

    def test_pairs(self):
        one, other = Filter(T, equal(1, 9)), Filter(Scan("t", (4, 5, 6)), equal(4, 7))
        for node in (Union, Except, Intersect):
            self.check(node(one, other, [3, 1, 8]), (3, 1, 8), (one, other), (7, 9), one=one, other=other)

    def test_joins(self):
        left, right = Filter(T, equal(1, 9)), Filter(U, equal(4, 7))
        condition = ("and", (equal(1, 4), equal(2, 8)))
        for kind in ("inner", "left", "full", "single"):
            self.check(Join(kind, left, right, condition), (1, 2, 3, 4, 5), (left, right), (7, 8, 9), kind=kind, left=left,
                       right=right, condition=condition)
            self.assertIsNone(Join(kind, left, right, condition).column)
        for kind in ("semi", "anti"):
            self.check(Join(kind, left, right, condition), (1, 2, 3), (left, right), (7, 8, 9))
        self.check(Join("mark", left, right, condition, 6), (1, 2, 3, 6), (left, right), (7, 8, 9), column=6)
        # The columns of right are no columns of a mark.
        self.check(Join("mark", left, right, condition, 4), (1, 2, 3, 4), (left, right), (7, 8, 9), column=4)

    def test_depends(self):
        right = Filter(U, ("and", (equal(4, 1), equal(5, 7))))
        for kind in ("inner", "left", "single"):
            plan = Depend(kind, T, right, equal(2, 8))
            self.assertIsInstance(plan, Join)
            self.check(plan, (1, 2, 3, 4, 5), (T, right), (7, 8), kind=kind, left=T, right=right, condition=equal(2, 8))
        for kind in ("semi", "anti"):
            self.check(Depend(kind, T, right, ALWAYS), (1, 2, 3), (T, right), (7,))
        self.check(Depend("mark", T, right, ALWAYS, 6), (1, 2, 3, 6), (T, right), (7,), column=6)

    def test_free_columns_of_a_depend_within_a_depend(self):
        inner = Depend("semi", U, Filter(Scan("v", (6,)), ("and", (equal(6, 1), equal(6, 4), equal(6, 9)))), ALWAYS)
        self.assertEqual((1, 9), inner.free)
        self.assertEqual((9,), Depend("inner", T, inner, ALWAYS).free)
        # What right hides is no column of right, and may be known from left; what left hides is not known.
        hides = Filter(Keep(T, (2,)), equal(1, 2))
        self.assertEqual((1,), hides.free)
        self.assertEqual((), Depend("inner", Scan("v", (1,)), hides, ALWAYS).free)
        self.assertEqual((1,), Depend("inner", Keep(T, (3,)), Filter(U, equal(4, 1)), ALWAYS).free)

    def test_expressions_of_each_form(self):
        e = column(1)
        for tree in [
            ("value", None), ("value", -10 ** 59), ("value", "it's"), ("param", "p"), column(9999), ("+", e, e), ("-", e, e),
            ("*", e, e), ("case", ((ALWAYS, e),), e), ("case", ((("truth", 1), e), (("or", ()), e)), ("value", 1)),
            ("coalesce", (e,)), ("coalesce", (e, e, e)),
        ]:
            self.assertEqual(((4, tree),), Compute(T, [(4, tree)]).made)
            self.assertEqual(("null", tree), Filter(T, ("null", tree)).condition)

    def test_conditions_of_each_form(self):
        e = column(1)
        for tree in [
            *[(sign, e, e) for sign in ("=", "<>", "<", "<=", ">", ">=", "is")], ("null", e), ("not", ALWAYS), ALWAYS,
            ("or", ()), ("and", (ALWAYS,)), ("or", (ALWAYS, ALWAYS)), ("truth", 1), ("truth", 9999),
        ]:
            self.assertEqual(tree, Filter(T, tree).condition)
            self.assertEqual(((4, tree),), Compute(T, [(4, tree)]).made)
            self.assertEqual(("not", tree), Join("semi", T, U, ("not", tree)).condition)

    def test_each_class_has_its_own_properties(self):
        for node, names in [
            (Plan, ["columns", "parts", "free", "walk", "at", "put", "renamed", "__len__", "__eq__"]), (Rows, ["columns", "rows"]),
            (Scan, ["table", "columns"]), (Filter, ["plan", "condition"]), (Compute, ["plan", "made"]), (Keep, ["plan", "columns"]),
            (Distinct, ["plan"]), (Number, ["plan", "column", "by"]), (Group, ["plan", "by", "made"]), (First, ["plan", "order", "n", "by"]),
            *[(pair, ["one", "other", "columns"]) for pair in (Union, Except, Intersect)],
            *[(join, ["kind", "left", "right", "condition", "column"]) for join in (Join, Depend)],
        ]:
            self.assertLessEqual(set(names) | {"__init__"}, set(vars(node)), node)
            self.assertTrue(issubclass(node, Plan))
        self.assertEqual((Join,), Depend.__bases__)

    def test_lists_that_are_changed_afterwards(self):
        columns, rows, made, order, by = [1, 2], [(1, 2)], [(4, column(1))], [(1, True)], [1]
        plans = [
            Rows(columns, rows), Scan("t", columns), Compute(T, made), Keep(T, columns), Number(T, 4, by),
            Group(T, by, [(4, ("sum", column(2)))]), First(T, order, 1, by), Union(Keep(T, (1, 2)), U, columns),
        ]
        told = [(plan.columns, plan.parts, plan.free) for plan in plans]
        for listed in (columns, rows, made, order, by):
            listed.append(listed[0])
        self.assertEqual(told, [(plan.columns, plan.parts, plan.free) for plan in plans])
        self.assertEqual(((1, 2),), plans[0].rows)
        self.assertEqual(((4, column(1)),), plans[2].made)
        self.assertEqual(((1, True),), plans[6].order)
        self.assertEqual((1,), plans[6].by)


class Equal(unittest.TestCase):
    def test_the_same_node_with_the_same_fields(self):
        for index, plan in enumerate(sample_plans()):
            for other_index, other in enumerate(sample_plans()):
                self.assertEqual(index == other_index, plan == other, (index, other_index))
                self.assertEqual(index != other_index, plan != other)
            for thing in ANYTHING:
                self.assertFalse(plan == thing)

    def test_each_field_counts(self):
        V = Scan("v", (6,))
        for one, other in [
            (Rows((1,), [(1,)]), Rows((2,), [(1,)])), (Rows((1,), [(1,)]), Rows((1,), [(2,)])), (Scan("t", (1,)), Scan("u", (1,))),
            (Scan("t", (1,)), Scan("t", (2,))), (Rows((), ()), Rows((), [()])), (Rows((1,), ()), Scan("t", (1,))),
            (Number(T, 4), Number(T, 5)), (Number(T, 4), Number(T, 4, (1,))), (First(T, (), 1), First(T, (), None)),
            (First(T, (), 1), First(T, (), 1, (1,))), (First(T, [(1, True)], 1), First(T, [(1, False)], 1)),
            (Join("semi", T, U, ALWAYS), Join("anti", T, U, ALWAYS)), (Join("semi", T, U, ALWAYS), Join("semi", T, V, ALWAYS)),
            (Join("semi", T, U, ALWAYS), Join("semi", T, U, ("or", ()))),
            (Join("mark", T, U, ALWAYS, 8), Join("mark", T, U, ALWAYS, 9)), (Join("semi", T, U, ALWAYS), Depend("semi", T, U, ALWAYS)),
            (Union(T, T, (1, 2, 3)), Except(T, T, (1, 2, 3))), (Distinct(T), Distinct(Distinct(T))), (Keep(T, (1, 2)), Keep(T, (2, 1))),
        ]:
            self.assertFalse(one == other)
            self.assertFalse(other == one)
        self.assertEqual(First(T, [(1, True)], 1, [2]), First(T, ((1, True),), 1, (2,)))

    def test_len_counts_each_node_as_often_as_it_stands_there(self):
        self.assertEqual(1, len(T))
        self.assertEqual(5, len(Distinct(Union(T, Distinct(T), (1, 2, 3)))))
        plan = Scan("v", (1,))
        for _ in range(40):
            plan = Union(plan, plan, (1,))
        self.assertEqual(2 ** 41 - 1, len(plan))


class Paths(unittest.TestCase):
    PLAN = Union(Keep(Join("semi", T, Filter(U, ("null", column(4))), ALWAYS), (1,)), Keep(U, (4,)), (9,))

    def test_walk(self):
        plan = self.PLAN
        told = list(plan.walk())
        self.assertEqual([(), (0,), (0, 0), (0, 0, 0), (0, 0, 1), (0, 0, 1, 0), (1,), (1, 0)], [path for path, _ in told])
        for path, node in told:
            self.assertIs(node, plan.at(path))
        self.assertIs(plan, told[0][1])
        self.assertIs(T, plan.at((0, 0, 0)))
        self.assertIs(U, plan.at((1, 0)))
        walk = plan.walk()
        self.assertIs(walk, iter(walk))
        self.assertEqual(((), plan), next(walk))

    def test_no_place(self):
        for path in ANYTHING + [(0,) * 5, (2,), (-1,), (1, 1), (0, 0, 2), (0, 0, 0, 0), (True,), (False,), ("0",), (None,), [0],
                                [], (0, True), (0.0,), self.PLAN, (self.PLAN,), 10 ** 50, (10 ** 50,)]:
            if path == () and isinstance(path, tuple):
                continue
            for call in (lambda told: self.PLAN.at(told), lambda told: self.PLAN.put(told, T),
                         lambda told: self.PLAN.put(told, 5)):
                with self.assertRaises(NoPlace) as caught:
                    call(path)
                self.assertIs(path, caught.exception.path)

    def test_put(self):
        plan = self.PLAN
        before = plan.renamed({})
        V = Scan("v", (6,))
        self.assertIs(V, plan.put((), V))
        other = Scan("t", (4, 7))
        self.assertEqual(Union(plan.one, Keep(other, (4,)), (9,)), plan.put((1, 0), other))
        self.assertEqual(Union(Keep(Join("semi", T, V, ALWAYS), (1,)), plan.other, (9,)), plan.put((0, 0, 1), V))
        self.assertEqual(before, plan)
        for path, node in plan.walk():
            self.assertEqual(plan, plan.put(path, node))
        for path, node in Join("semi", T, U, ALWAYS).walk():
            self.assertIsInstance(Depend("semi", T, U, ALWAYS).put(path, node), Join)
        self.assertIsInstance(Depend("semi", T, U, ALWAYS).put((1,), U), Depend)
        for sample in sample_plans():
            for path, node in sample.walk():
                self.assertEqual(sample, sample.put(path, node))

    def test_put_what_does_not_fit(self):
        plan = self.PLAN
        for path in ((), (0,), (0, 0, 1, 0)):
            for thing in ANYTHING:
                self.wrong("part", plan, path, thing)
        self.wrong("missing", plan, (1, 0), Scan("v", (6,)))
        self.wrong("missing", plan, (1,), U)
        self.wrong("columns", plan, (0, 0, 1), Scan("v", (1,)))
        self.wrong("free", plan, (0, 0, 1), Filter(Scan("v", (6,)), equal(6, 1)))
        self.wrong("free", plan, (1,), Filter(Scan("v", (6,)), equal(6, 9)))
        # Of two nodes above, the nearer one tells.
        self.wrong("missing", plan, (0, 0), Filter(U, equal(4, 9)))

    def wrong(self, word, plan, path, other):
        with self.assertRaises(InvalidPlan) as caught:
            plan.put(path, other)
        self.assertEqual(word, caught.exception.word)


class Renamed(unittest.TestCase):
    def test_all_numbers(self):
        plan = Keep(Compute(Filter(Scan("t", (1, 2, 3)), equal(1, 7)), [(4, ("truth", 8)), (5, column(2))]), (4, 3))
        told = {1: 11, 3: 13, 4: 14, 7: 17, 8: 9999}
        self.assertEqual(
            Keep(Compute(Filter(Scan("t", (11, 2, 13)), equal(11, 17)), [(14, ("truth", 9999)), (5, column(2))]), (14, 13)),
            plan.renamed(told))
        self.assertEqual({1: 11, 3: 13, 4: 14, 7: 17, 8: 9999}, told)
        self.assertEqual((17, 9999), plan.renamed(told).free)

    def test_each_node(self):
        for plan in sample_plans():
            self.assertEqual(plan, plan.renamed({}))
            self.assertEqual(plan, plan.renamed({50: 51}))
            moved = plan.renamed({number: number + 100 for number in range(1, 10)})
            self.assertEqual(tuple(number + 100 for number in plan.columns), moved.columns)
            self.assertEqual(tuple(number + 100 for number in plan.free), moved.free)
            self.assertNotEqual(plan.free != () or plan.columns != () or len(plan) > 1, moved == plan)
            self.assertEqual(plan, moved.renamed({number + 100: number for number in range(1, 10)}))
            # Numbers may be exchanged.
            swap = {1: 4, 4: 1, 7: 8, 8: 7}
            self.assertEqual(plan, plan.renamed(swap).renamed(swap))
            self.assertEqual(tuple(swap.get(number, number) for number in plan.columns), plan.renamed(swap).columns)

    def test_fields(self):
        numbers = {1: 11, 2: 12, 4: 14, 6: 16, 7: 17}
        moved = First(T, [(1, True), (3, False)], 2, (2,)).renamed(numbers)
        self.assertEqual((((11, True), (3, False)), 2, (12,)), (moved.order, moved.n, moved.by))
        moved = Number(T, 4, (1,)).renamed(numbers)
        self.assertEqual((14, (11,)), (moved.column, moved.by))
        moved = Group(T, (1,), [(4, ("count", column(7), True)), (6, ("count", None, False))]).renamed(numbers)
        self.assertEqual(((14, ("count", column(17), True)), (16, ("count", None, False))), moved.made)
        moved = Depend("mark", T, Filter(U, equal(4, 1)), equal(1, 4), 6).renamed(numbers)
        self.assertIsInstance(moved, Depend)
        self.assertEqual((16, equal(11, 14), equal(14, 11)), (moved.column, moved.condition, moved.right.condition))
        tree = ("case", ((("and", (("truth", 1), ("not", ("is", column(1), ("value", 1))))), ("coalesce", (column(2),))),),
                ("param", "p"))
        moved = Compute(T, [(4, tree)]).renamed(numbers)
        self.assertEqual(("case", ((("and", (("truth", 11), ("not", ("is", column(11), ("value", 1))))),
                                    ("coalesce", (column(12),))),), ("param", "p")), moved.made[0][1])

    def test_a_number_that_is_hidden_and_free(self):
        plan = Filter(Keep(T, (2,)), equal(1, 2))
        moved = plan.renamed({1: 8})
        self.assertEqual(Filter(Keep(Scan("t", (8, 2, 3)), (2,)), equal(8, 2)), moved)

    def test_numbers_that_do_not_fit(self):
        for numbers, word in [({1: 2}, "columns"), ({1: 0}, "columns"), ({1: 10000}, "columns"), ({7: 1}, None), ({1: 7}, None)]:
            plan = Filter(T, equal(1, 7))
            if word is None:
                plan.renamed(numbers)
                continue
            with self.assertRaises(InvalidPlan) as caught:
                plan.renamed(numbers)
            self.assertEqual(word, caught.exception.word)


if __name__ == "__main__":
    unittest.main()
