"""Running plans [41 to 43]."""

import unittest

from innerasks.databases import Database
from innerasks.errors import BadColumns, BadParameter, FreeColumns, Several, UnknownTable
from innerasks.lotplans import First, Group, Number
from innerasks.pairplans import Depend, Except, Intersect, Join, Union
from innerasks.plans import Compute, Distinct, Filter, Keep, Rows, Scan
from innerasks.running import run
from asking import outcome
from samples import ANYTHING, ASKED, SCHEMA

ALWAYS, NEVER = ("and", ()), ("or", ())
BASE = Database(ASKED, {"t": [(1, 10, "a"), (1, 10, "a"), (2, None, "b"), (None, 30, None)],
                        "u": [(1, "a"), (1, "b"), (2, None), (None, "a")]})
T = Scan("t", (1, 2, 3))
U = Scan("u", (4, 5))


def column(number):
    return ("column", number)


def equal(one, other):
    return ("=", column(one), column(other))


def rows_of(plan, base=BASE, **params):
    return run(base, plan, params=params)


def told(*values):
    """A plan of rows with one column, 1."""
    return Rows((1,), [(value,) for value in values])


class Nodes(unittest.TestCase):
    def test_rows_and_scan(self):
        self.assertEqual([(None, 1), ("a", 2), ("b", 0), ("b", 0)],
                         rows_of(Rows((7, 3), [("b", 0), ("a", 2), ("b", 0), (None, 1)])))
        self.assertEqual([(), ()], rows_of(Rows((), [(), ()])))
        self.assertEqual([], rows_of(Rows((1,), ())))
        self.assertEqual([(None, "a"), (1, "a"), (1, "b"), (2, None)], rows_of(Scan("u", (2, 1))))
        self.assertEqual([], rows_of(Scan("v", (1,))))

    def test_filter(self):
        self.assertEqual([(1, 10, "a"), (1, 10, "a")], rows_of(Filter(T, ("<", column(2), ("value", 30)))))
        self.assertEqual(4, len(rows_of(Filter(T, ALWAYS))))
        self.assertEqual([], rows_of(Filter(T, NEVER)))
        # Unknown is not True.
        self.assertEqual([(None, 30, None)], rows_of(Filter(T, (">", column(2), ("value", 10)))))
        self.assertEqual([(2, None, "b")], rows_of(Filter(T, ("null", column(2)))))

    def test_compute(self):
        made = [(4, ("+", column(1), column(2))), (5, ("=", column(1), ("value", 1))), (6, column(3)), (7, ("value", None))]
        self.assertEqual([(None, 30, None, None, None, None, None), (1, 10, "a", 11, True, "a", None),
                          (1, 10, "a", 11, True, "a", None), (2, None, "b", None, False, "b", None)], rows_of(Compute(T, made)))

    def test_truths_are_ordered_unknown_false_true(self):
        plan = Compute(told(1, 2, None), [(2, ("=", column(1), ("value", 1)))])
        self.assertEqual([(None, None), (False, 2), (True, 1)], rows_of(Keep(plan, (2, 1))))
        self.assertEqual([(True, 1), (False, 2), (None, None)], rows_of(First(Keep(plan, (2, 1)), [(2, True)], None)))
        self.assertEqual([(None,), (False,), (True,)],
                         rows_of(Keep(Filter(plan, ("not", ("and", (("truth", 2), NEVER)))), (2,))))
        self.assertEqual([(1, True)], rows_of(Filter(plan, ("truth", 2))))
        self.assertEqual([(2, False)], rows_of(Filter(plan, ("not", ("truth", 2)))))
        self.assertEqual([(None, 0, None), (1, 2, True), (2, 1, False)],
                         rows_of(Keep(Number(Keep(plan, (2, 1)), 3), (1, 3, 2))))
        self.assertEqual([(None, 1), (False, 1), (True, 1)], rows_of(Group(plan, (2,), [(3, ("count", None, False))])))

    def test_keep_and_distinct(self):
        self.assertEqual([(None, None), ("a", 1), ("a", 1), ("b", 2)], rows_of(Keep(T, (3, 1))))
        self.assertEqual([(), (), (), ()], rows_of(Keep(T, ())))
        self.assertEqual([()], rows_of(Distinct(Keep(T, ()))))
        self.assertEqual([(None,), (1,), (2,)], rows_of(Distinct(Keep(T, (1,)))))

    def test_number(self):
        self.assertEqual([(None, 30, None, 0), (1, 10, "a", 1), (1, 10, "a", 2), (2, None, "b", 3)], rows_of(Number(T, 4)))
        self.assertEqual([(None, "a", 0), (1, "a", 0), (1, "b", 1), (2, None, 0)], rows_of(Number(U, 6, (4,))))
        self.assertEqual([(None, 2, 0), ("a", None, 0), ("a", 1, 1), ("b", 1, 0)],
                         rows_of(Number(Keep(U, (5, 4)), 6, (5,))))
        # The order of the columns tells the order of the rows.
        self.assertEqual([(None, "a", 1), (1, "a", 2), (1, "b", 3), (2, None, 0)],
                         rows_of(Keep(Number(Keep(U, (5, 4)), 6), (4, 5, 6))))

    def test_group(self):
        made = [(6, ("count", None, False)), (7, ("count", column(4), False)), (8, ("count", column(4), True)),
                (9, ("sum", column(4))), (10, ("least", column(4))), (11, ("most", column(4)))]
        self.assertEqual([(None, 1, 1, 1, 2, 2, 2), ("a", 2, 1, 1, 1, 1, 1), ("b", 1, 1, 1, 1, 1, 1)], rows_of(Group(U, (5,), made)))
        self.assertEqual([(4, 3, 2, 4, 1, 2)], rows_of(Group(U, (), made)))
        self.assertEqual([(0, 0, 0, None, None, None)], rows_of(Group(Filter(U, NEVER), (), made)))
        self.assertEqual([], rows_of(Group(Filter(U, NEVER), (5,), made)))
        self.assertEqual([(None, "a", 1), (1, "a", 1), (1, "b", 1), (2, None, 1)],
                         rows_of(Group(U, (4, 5), [(9, ("count", None, False))])))
        self.assertEqual([(None,), ("a",), ("b",)], rows_of(Group(U, (5,), ())))
        self.assertEqual([()], rows_of(Group(Filter(U, NEVER), (), ())))
        self.assertEqual([(24,)], rows_of(Group(U, (), [(1, ("sum", ("*", column(4), ("value", 6))))])))

    def test_first(self):
        for many, rows in [(0, []), (1, [(2, None, "b")]), (3, [(2, None, "b"), (1, 10, "a"), (1, 10, "a")])]:
            self.assertEqual(rows, rows_of(First(T, [(1, True)], many)))
        self.assertEqual([(2, None, "b"), (1, 10, "a"), (1, 10, "a"), (None, 30, None)], rows_of(First(T, [(1, True)], None)))
        self.assertEqual([(None, 30, None), (1, 10, "a")], rows_of(First(T, (), 2)))
        self.assertEqual([(1, "b"), (None, "a"), (1, "a"), (2, None)], rows_of(First(U, [(5, True)], None)))
        self.assertEqual([(1, "a"), (None, "a"), (1, "b")], rows_of(First(Filter(U, ("not", ("null", column(5)))),
                                                                         [(5, False), (4, True)], None)))

    def test_first_by_lots(self):
        self.assertEqual([(None, "a"), (1, "b"), (2, None)], rows_of(First(U, [(5, True)], 1, (4,))))
        self.assertEqual([(None, "a"), (1, "a"), (1, "b"), (2, None)], rows_of(First(U, [(5, True)], None, (4,))))
        self.assertEqual([], rows_of(First(U, [(5, True)], 0, (4,))))
        self.assertEqual([(None, "a"), (1, "b"), (2, None)], rows_of(First(U, (), 1, (5,))))
        # With a mark of lots the rows come in their own order.
        self.assertEqual([(1,), (2,), (3,)], rows_of(First(told(3, 1, 2), [(1, True)], None, (1,))))

    def test_only_the_plan_itself_tells_its_order(self):
        first = First(told(1, 3, 2), [(1, True)], 2)
        self.assertEqual([(3,), (2,)], rows_of(first))
        self.assertEqual([(2,), (3,)], rows_of(Filter(first, ALWAYS)))
        self.assertEqual([(2,), (3,)], rows_of(Keep(first, (1,))))
        self.assertEqual([(1,), (2,), (3,)], rows_of(Union(first, told(1), (9,))))

    def test_pairs(self):
        one, other = told(1, 1, 1, 2, None, None), told(1, 3, None, 1)
        for node, rows in [(Union, [None, None, None, 1, 1, 1, 1, 1, 2, 3]), (Except, [None, 1, 2]), (Intersect, [None, 1, 1])]:
            self.assertEqual([(x,) for x in rows], rows_of(node(one, other, (5,))))
        self.assertEqual([(3,)], rows_of(Except(other, one, (5,))))
        self.assertEqual([(None, "a"), (1, "a"), (1, "b")], rows_of(Except(U, Rows((1, 2), [(2, None), (1, "c")]), (8, 9))))
        self.assertEqual([(), ()], rows_of(Except(Rows((), [(), (), ()]), Rows((), [()]), ())))


class Joins(unittest.TestCase):
    LEFT = told(1, 1, 2, None)
    RIGHT = Rows((2, 3), [(1, "a"), (1, "b"), (3, "c"), (None, "d")])
    ON = equal(1, 2)

    def test_inner(self):
        self.assertEqual([(1, 1, "a"), (1, 1, "a"), (1, 1, "b"), (1, 1, "b")], rows_of(Join("inner", self.LEFT, self.RIGHT, self.ON)))
        self.assertEqual(16, len(rows_of(Join("inner", self.LEFT, self.RIGHT, ALWAYS))))
        self.assertEqual([], rows_of(Join("inner", self.LEFT, self.RIGHT, NEVER)))
        self.assertEqual([(None, None, "d")] + [(1, 1, "a")] * 2 + [(1, 1, "b")] * 2,
                         rows_of(Join("inner", self.LEFT, self.RIGHT, ("is", column(2), column(1)))))
        self.assertEqual([(2, 1, "a"), (2, 1, "b")], rows_of(Join("inner", self.LEFT, self.RIGHT, (">", column(1), column(2)))))
        self.assertEqual([(1, 1, "b"), (1, 1, "b")], rows_of(Join(
            "inner", self.LEFT, self.RIGHT, ("and", (self.ON, ("=", column(3), ("value", "b")))))))

    def test_left_and_full(self):
        pairs = [(1, 1, "a"), (1, 1, "a"), (1, 1, "b"), (1, 1, "b"), (2, None, None)]
        self.assertEqual([(None, None, None)] + pairs, rows_of(Join("left", self.LEFT, self.RIGHT, self.ON)))
        self.assertEqual([(None, None, None), (None, None, "d"), (None, 3, "c")] + pairs,
                         rows_of(Join("full", self.LEFT, self.RIGHT, self.ON)))
        self.assertEqual([(None, None, None), (1, None, None), (1, None, None), (2, None, None)],
                         rows_of(Join("left", self.LEFT, self.RIGHT, NEVER)))
        self.assertEqual(8, len(rows_of(Join("full", self.LEFT, self.RIGHT, NEVER))))
        self.assertEqual([(None, 1), (None, 1)], rows_of(Join("full", Rows((5,), ()), told(1, 1), ALWAYS)))
        self.assertEqual([(1, None), (1, None)], rows_of(Join("full", told(1, 1), Rows((5,), ()), ALWAYS)))

    def test_semi_and_anti(self):
        self.assertEqual([(1,), (1,)], rows_of(Join("semi", self.LEFT, self.RIGHT, self.ON)))
        self.assertEqual([(None,), (2,)], rows_of(Join("anti", self.LEFT, self.RIGHT, self.ON)))
        self.assertEqual([], rows_of(Join("semi", self.LEFT, Rows((5,), ()), ALWAYS)))
        self.assertEqual(4, len(rows_of(Join("anti", self.LEFT, Rows((5,), ()), ALWAYS))))
        # Where the condition is unknown, the row is in no pair.
        self.assertEqual([], rows_of(Join("semi", told(None), told(1).renamed({1: 5}), equal(1, 5))))
        self.assertEqual([(None,)], rows_of(Join("anti", told(None), told(1).renamed({1: 5}), equal(1, 5))))

    def test_mark(self):
        self.assertEqual([(None, None), (1, True), (1, True), (2, None)], rows_of(Join("mark", self.LEFT, self.RIGHT, self.ON, 9)))
        known = Filter(self.RIGHT, ("not", ("null", column(2))))
        self.assertEqual([(None, None), (1, True), (1, True), (2, False)], rows_of(Join("mark", self.LEFT, known, self.ON, 9)))
        none = Filter(self.RIGHT, NEVER)
        self.assertEqual([(None, False), (1, False), (1, False), (2, False)], rows_of(Join("mark", self.LEFT, none, self.ON, 9)))
        self.assertEqual([(None, True), (1, True), (1, True), (2, True)], rows_of(Join("mark", self.LEFT, known, ALWAYS, 9)))
        self.assertEqual([(None, True), (1, True), (1, True), (2, False)],
                         rows_of(Join("mark", self.LEFT, self.RIGHT, ("is", column(1), column(2)), 9)))
        both = ("and", (("is", column(1), column(2)), ("=", column(3), ("value", None))))
        self.assertEqual([(None, None), (1, None), (1, None), (2, False)], rows_of(Join("mark", self.LEFT, self.RIGHT, both, 9)))
        self.assertEqual([(None, True), (1, True), (1, True), (2, False)], rows_of(Join("mark", self.LEFT, self.RIGHT, (
            "or", (("is", column(1), column(2)), ("and", (self.ON, ("=", column(3), ("value", "a")))))), 2)))

    def test_single(self):
        right = Filter(self.RIGHT, ("<>", column(3), ("value", "b")))
        rows = [(None, None, None), (1, 1, "a"), (1, 1, "a"), (2, None, None)]
        self.assertEqual(rows, rows_of(Join("single", self.LEFT, right, self.ON)))
        for left, condition, is_several in [
            (self.LEFT, self.ON, True), (told(2, None), self.ON, False), (told(), ALWAYS, False), (told(1), ALWAYS, True),
            (told(1), NEVER, False), (told(2), (">", column(1), column(2)), True), (told(0), (">", column(1), column(2)), False),
        ]:
            plan = Join("single", left, self.RIGHT, condition)
            self.assertEqual(is_several, outcome(lambda: rows_of(plan)) == "several")

    def test_several_in_a_part(self):
        bad = Join("single", told(1), self.RIGHT, ALWAYS)
        good = Rows((8,), ())
        for plan in [Filter(bad, NEVER), Distinct(bad), Group(bad, (), ()), First(bad, (), 0), Keep(bad, ()),
                     Union(good, Keep(bad, (1,)), (1,)), Except(good, Keep(bad, (1,)), (1,)), Intersect(Keep(bad, (1,)), good, (1,)),
                     Join("inner", good, bad, ALWAYS), Join("semi", bad, good, NEVER), Join("mark", good, bad, NEVER, 9),
                     Depend("left", bad, good, ALWAYS), Number(bad, 9), Compute(bad, ())]:
            with self.assertRaises(Several):
                rows_of(plan)

    def test_left_columns_of_the_same_name_of_row(self):
        # A link whose sides are turned about.
        self.assertEqual(rows_of(Join("full", self.LEFT, self.RIGHT, equal(1, 2))),
                         rows_of(Join("full", self.LEFT, self.RIGHT, equal(2, 1))))
        self.assertEqual([(1, 1), (1, 1)], rows_of(Keep(Join("inner", self.LEFT, self.RIGHT, ("and", (
            equal(1, 2), equal(2, 2), equal(1, 1), ("=", column(3), ("value", "a"))))), (1, 2))))


class Depends(unittest.TestCase):
    RIGHT = Filter(U, ("=", column(4), column(1)))

    def test_each_kind(self):
        left = told(1, 2, 3, None, 1)
        for kind, rows in [
            ("inner", [(1, 1, "a"), (1, 1, "a"), (1, 1, "b"), (1, 1, "b"), (2, 2, None)]),
            ("left", [(None, None, None), (1, 1, "a"), (1, 1, "a"), (1, 1, "b"), (1, 1, "b"), (2, 2, None), (3, None, None)]),
            ("semi", [(1,), (1,), (2,)]), ("anti", [(None,), (3,)]),
        ]:
            self.assertEqual(rows, rows_of(Depend(kind, left, self.RIGHT, ALWAYS)))
        self.assertEqual([(None, False), (1, True), (1, True), (2, True), (3, False)],
                         rows_of(Depend("mark", left, self.RIGHT, ALWAYS, 9)))
        self.assertEqual([(None, False), (1, True), (1, True), (2, None), (3, False)],
                         rows_of(Depend("mark", left, self.RIGHT, ("=", column(5), ("value", "b")), 9)))
        self.assertEqual("several", outcome(lambda: rows_of(Depend("single", left, self.RIGHT, ALWAYS))))
        self.assertEqual([(None, None, None), (2, 2, None), (3, None, None)],
                         rows_of(Depend("single", told(3, 2, None), self.RIGHT, ALWAYS)))
        self.assertEqual([(1, 1, "a"), (2, None, None)],
                         rows_of(Depend("single", told(1, 2), self.RIGHT, ("<", column(5), ("value", "b")))))

    def test_the_right_part_is_run_for_each_row_of_left(self):
        count = Group(self.RIGHT, (), [(9, ("count", None, False))])
        self.assertEqual([(None, 0), (1, 2), (2, 1), (3, 0)], rows_of(Depend("inner", told(3, 1, None, 2), count, ALWAYS)))
        first = First(Keep(self.RIGHT, (5,)), [(5, True)], 1)
        self.assertEqual([(1, "b"), (2, None), (3, None)], rows_of(Depend("left", told(1, 2, 3), first, ALWAYS)))
        self.assertEqual([(1, 3), (2, 3)], rows_of(Keep(Depend("inner", told(1, 2), Filter(Rows((7,), [(3,)]), ALWAYS), ALWAYS), (1, 7))))

    def test_columns_are_known_at_any_depth(self):
        inner = Filter(Scan("t", (6, 7, 8)), ("and", (equal(6, 1), equal(8, 5))))
        plan = Depend("inner", told(1, 2), Depend("semi", self.RIGHT, inner, ALWAYS), ALWAYS)
        self.assertEqual([(1, 1, "a")], rows_of(plan))
        # A nearer column with the number that is known further out comes first.
        hides = Keep(Filter(Scan("v", (1,)), ("=", column(1), ("value", 5))), ())
        base = Database(ASKED, {"v": [(5,), (6,)]})
        self.assertEqual([(1,), (2,)], rows_of(Depend("semi", told(1, 2), hides, ALWAYS), base))

    def test_truths_that_are_known(self):
        left = Compute(told(1, 2, None), [(2, ("=", column(1), ("value", 1)))])
        right = Filter(Scan("u", (4, 5)), ("and", (("not", ("truth", 2)), ("=", column(4), column(1)))))
        self.assertEqual([(2, False, 2, None)], rows_of(Depend("inner", left, right, ALWAYS)))
        made = Compute(Rows((), [()]), [(7, ("truth", 2))])
        self.assertEqual([(None, None, None), (1, True, True), (2, False, False)], rows_of(Depend("inner", left, made, ALWAYS)))

    def test_an_empty_left_part(self):
        bad = Join("single", Rows((6,), [(1,)]), Rows((7,), [(1,), (2,)]), ALWAYS)
        for kind in ("inner", "left", "semi", "anti", "single"):
            self.assertEqual([], rows_of(Depend(kind, told(), bad, ALWAYS)))
            self.assertEqual("several", outcome(lambda: rows_of(Depend(kind, told(1), bad, NEVER))))
            self.assertEqual("several", outcome(lambda: rows_of(Join(kind, told(), bad, ALWAYS))))
        self.assertEqual([], rows_of(Depend("mark", told(), bad, ALWAYS, 9)))
        self.assertEqual([], rows_of(Depend("single", told(), U, ALWAYS)))

    def test_several_for_some_rows_only(self):
        value = Depend("single", Rows((6,), [(0,)]), self.RIGHT, ALWAYS)
        self.assertEqual([(2,), (3,)], rows_of(Depend("semi", told(2, 3), value, ALWAYS)))
        self.assertEqual("several", outcome(lambda: rows_of(Depend("semi", told(2, 1, 3), value, ALWAYS))))


class Errors(unittest.TestCase):
    def test_one_free_column(self):
        for plan in (Filter(T, equal(1, 9)), Depend("semi", T, Filter(U, equal(4, 9)), ALWAYS)):
            with self.assertRaises(FreeColumns) as caught:
                run(BASE, plan)
            self.assertEqual((9,), caught.exception.value)

    def test_free_columns(self):
        plan = Filter(Scan("none", (1,)), ("and", (equal(1, 9), ("truth", 7), equal(1, 8))))
        for params in (None, {"p": 1}):
            with self.assertRaises(FreeColumns) as caught:
                run(BASE, plan, params=params)
            self.assertEqual((7, 8, 9), caught.exception.value)

    def test_scans(self):
        for plan, error, word in [
            (Scan("w", ()), UnknownTable, "w"), (Scan("t", (1, 2)), BadColumns, "t"), (Scan("t", (1, 2, 3, 4)), BadColumns, "t"),
            (Join("semi", Scan("u", ()), Scan("w", ()), ALWAYS), BadColumns, "u"),
            (Join("semi", Scan("w", ()), Scan("u", ()), ALWAYS), UnknownTable, "w"),
            (Join("semi", Filter(T, ("null", ("param", "p"))), Scan("u", ()), ALWAYS), BadColumns, "u"),
            (Union(Scan("u", (1, 2)), Keep(Scan("x", (1, 2)), (1, 2)), (1, 2)), UnknownTable, "x"),
            (Depend("semi", told(), Scan("x", (4,)), ALWAYS), UnknownTable, "x"),
        ]:
            with self.assertRaises(error) as caught:
                rows_of(plan, none=1)
            self.assertEqual(word, caught.exception.word)
        with self.assertRaises(UnknownTable):
            run(Database(SCHEMA), Scan("u", (1, 2)))

    def wrong(self, plan, params):
        with self.assertRaises(BadParameter) as caught:
            run(BASE, plan, params=params)
        return caught.exception.word

    def test_parameters(self):
        null = ("null", ("param", "p"))
        self.assertEqual([(1, 7)], rows_of(Compute(told(1), [(2, ("param", "p"))]), p=7))
        self.assertEqual([(1,)], rows_of(Filter(told(1, 2), ("=", column(1), ("param", "p"))), p=1))
        self.assertEqual([(1, "it's")], rows_of(Compute(told(1), [(2, ("param", "p"))]), p="it's"))
        self.assertEqual([(None, 8)], rows_of(
            Group(told(1), (), [(2, ("sum", ("param", "p"))), (3, ("most", ("param", "q")))]), p=None, q=8))
        self.assertEqual([(1, 5)], rows_of(Join("inner", told(1), Rows((2,), [(5,)]), ("=", column(2), ("param", "p"))), p=5))
        self.assertEqual([], rows_of(Filter(told(1), null), p=1))

    def test_parameters_by_the_nodes_and_their_fields(self):
        def null(name):
            return ("null", ("param", name))
        left = Compute(Group(T, (1,), [(6, ("sum", ("param", "c"))), (7, ("count", ("param", "d"), True))]),
                       [(8, ("param", "b")), (9, null("a"))])
        plan = Filter(Join("inner", left, Filter(Rows((12, 13), [("param", "z")]), null("k")), null("m")), null("n"))
        params = {}
        for name in ["n", "m", "b", "a", "c", "d", "k"]:
            self.assertEqual(name, self.wrong(plan, dict(params, zz=1)))
            self.assertEqual(name, self.wrong(plan, {**params, name: True}))
            params[name] = None
        self.assertEqual("y", self.wrong(plan, dict(params, zz=1, y=1)))
        self.assertEqual(2, len(run(BASE, plan, params=params)[0][:2]))
        # A row of texts is no parameter.
        self.assertEqual([("param", "z")], rows_of(Rows((1, 2), [("param", "z")])))

    def test_values_that_are_none(self):
        plan = Filter(told(1), ("null", ("param", "p")))
        for value in ANYTHING:
            if not (value is None or isinstance(value, (int, str)) and not isinstance(value, bool)):
                self.assertEqual("p", self.wrong(plan, {"p": value}))
        self.assertEqual("p", self.wrong(plan, {}))
        self.assertEqual("p", self.wrong(plan, None))

    def test_parameters_come_ahead_of_several(self):
        plan = Join("single", told(1), Rows((2,), [(1,), (1,)]), ALWAYS)
        self.assertEqual("p", self.wrong(plan, {"p": 1}))
        self.assertEqual("p", self.wrong(Filter(plan, ("null", ("param", "p"))), {}))

    def test_nothing_is_changed(self):
        params = {"p": 1}
        plan = Filter(T, ("=", column(1), ("param", "p")))
        rows = run(BASE, plan, params=params)
        rows.append("more")
        self.assertEqual([(1, 10, "a"), (1, 10, "a")], run(BASE, plan, params=params))
        told_rows = Rows((1,), [(2,), (1,)])
        run(BASE, told_rows).append("more")
        self.assertEqual([(1,), (2,)], run(BASE, told_rows))
        self.assertEqual({"p": 1}, params)


if __name__ == "__main__":
    unittest.main()
