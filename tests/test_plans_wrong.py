"""Arguments of plans that are wrong: InvalidPlan with the first word that applies."""

import unittest

from innerasks.errors import InvalidPlan
from innerasks.lotplans import First, Group, Number
from innerasks.pairplans import Depend, Except, Intersect, Join, Union
from innerasks.plans import Compute, Distinct, Filter, Keep, Rows, Scan
from samples import ANYTHING

ALWAYS = ("and", ())
T = Scan("t", (1, 2, 3))
U = Scan("u", (4, 5))
USES_SEVEN = Filter(T, ("=", ("column", 1), ("column", 7)))
E = ("column", 1)
C = ("null", E)
NO_NUMBERS = [thing for thing in ANYTHING if not isinstance(thing, int) or isinstance(thing, bool)] + [
    0, -1, 10000, 10 ** 50, "1", 1.0]
NO_COLUMNS = [thing for thing in ANYTHING if thing not in ((), [])] + [
    [0], [10000], (1, 0), [1, 1], (2, 1, 2), [True], ["1"], [None], [[1]], [(1,)], {1: 2}, range(1, 3), {1, 2}, "12"]
NO_LISTS = [thing for thing in ANYTHING if not isinstance(thing, (list, tuple))] + [{1: 2}, {1, 2}]
NO_EXPRESSIONS = [thing for thing in ANYTHING] + [
    ("value",), ("value", True), ("value", "z" * 41), ("value", "\n"), ("value", chr(37)), ("value", 1, 2), ("value", [1]),
    ("value", 1.5), ("param",), ("param", 3), ("param", "X"), ("param", "self"), ("param", "select"), ("param", "p", "q"),
    ("column",), ("column", 0), ("column", 10000), ("column", True), ("column", "x"), ("column", 1, 2), ("column", None, "x"),
    ("at", 0, 1), ("+", E), ("+", E, E, E), ("+", E, C), ("*", 1, 2), ("/", E, E), ["+", E, E], ("+", ["column", 1], E),
    ("coalesce", ()), ("coalesce", [E]), ("coalesce", E), ("coalesce", (C,)), ("coalesce", (E,), E), ("case", (), E),
    ("case", ((C, E),)), ("case", [(C, E)], E), ("case", ([C, E],), E), ("case", ((C, E, E),), E), ("case", ((E, E),), E),
    ("case", ((C, C),), E), ("case", ((C, E),), C), ("case", (C, E), E), ("one", ()), ("count", None, False), ("sum", E),
    ("null",), ("told", 0), (E,), ((), ()), (("value",), 1), ("coalesce", (E, ("+", E, ("column", 0)))),
]
NO_CONDITIONS = [thing for thing in ANYTHING] + [
    E, ("value", 1), ("param", "p"), ("=", E), ("=", E, E, E), ("=", E, C), ("=", C, C), ("==", E, E), ("!=", E, E), ["=", E, E],
    ("is", E), ("is", E, C), ("null", C), ("null", E, E), ("null",), ("not", E), ("not",), ("not", C, C), ("and",), ("and", C),
    ("and", [C]), ("and", (C,), C), ("and", (E,)), ("or", (C, E)), ("or", C), ("truth",), ("truth", 0), ("truth", 10000),
    ("truth", True), ("truth", "x"), ("truth", 1, 2), ("truth", E), ("exists", T), ("in", E, T), ("any", "=", E, T),
    ("all", "=", E, T), ("coalesce", (C,)), ("case", ((C, C),), C), ("and", (C, ("not", ("=", E, ("value", True))))), ((C,),),
]
NO_AGGREGATES = [thing for thing in ANYTHING] + [
    E, C, ("count",), ("count", E), ("count", E, 0), ("count", E, None), ("count", None, True), ("count", C, False),
    ("count", None), ("sum",), ("sum", None), ("sum", E, False), ("sum", C), ("least", C), ("most", None), ("most", ("sum", E)),
    ("total", E), ["sum", E], ("sum", ["column", 1]), ("count", ("column", 0), False), ("and", ()),
]


class Wrong(unittest.TestCase):
    def wrong(self, word, call, *args, **named):
        with self.assertRaises(InvalidPlan, msg=(call, args)) as caught:
            call(*args, **named)
        self.assertEqual(word, caught.exception.word, (call, args))

    def test_parts(self):
        for thing in ANYTHING + [Scan, Filter]:
            self.wrong("part", Filter, thing, C)
            self.wrong("part", Filter, thing, thing)
            self.wrong("part", Compute, thing, thing)
            self.wrong("part", Keep, thing, thing)
            self.wrong("part", Distinct, thing)
            self.wrong("part", Number, thing, thing, thing)
            self.wrong("part", Group, thing, thing, thing)
            self.wrong("part", First, thing, thing, True, 5)
            for node in (Union, Except, Intersect):
                self.wrong("part", node, thing, T, 5)
                self.wrong("part", node, T, thing, 5)
            for node in (Join, Depend):
                self.wrong("part", node, "none", thing, T, 5, 5)
                self.wrong("part", node, "none", T, thing, 5, 5)

    def test_rows(self):
        for thing in NO_LISTS:
            self.wrong("field", Rows, (1,), thing)
        for row in [thing for thing in ANYTHING if not isinstance(thing, tuple)] + [
                [1], (), (1, 2), (True,), ((1,),), ("z" * 41,), ("\n",), (1.5,)]:
            self.wrong("field", Rows, (1,), [(1,), row])
        self.wrong("field", Rows, (), [(), (1,)])
        self.wrong("field", Rows, (0,), [(1, 2)])
        for thing in NO_COLUMNS:
            self.wrong("columns", Rows, thing, ())
            self.wrong("field", Rows, thing, [5])
        self.wrong("columns", Rows, (1, 1), [(1, 2)])
        self.wrong("columns", Rows, 5, [(1, 2)])

    def test_scan(self):
        for thing in [thing for thing in ANYTHING if thing not in ("x", "t", "whole", "abcdefghijkl")]:
            self.wrong("field", Scan, thing, (1,))
            self.wrong("field", Scan, thing, (0,))
        for thing in NO_COLUMNS:
            self.wrong("columns", Scan, "t", thing)

    def test_filter(self):
        for thing in NO_CONDITIONS:
            self.wrong("expression", Filter, T, thing)
            self.wrong("expression", Filter, T, ("not", thing))
            self.wrong("expression", Filter, T, ("or", (C, thing)))
        # A column of the plan that is free in it cannot be; the plan itself is checked.
        self.assertEqual((7,), Filter(USES_SEVEN, C).free)

    def test_compute(self):
        for thing in NO_LISTS + [[5], [(4,)], [(4, E, E)], [[4, E]], (4, E), [(4, E), None]]:
            self.wrong("field", Compute, T, thing)
        for number in NO_NUMBERS:
            self.wrong("columns", Compute, T, [(4, E), (number, E)])
            self.wrong("columns", Compute, T, [(number, 5)])
        for made in ([(1, E)], [(4, E), (3, E)], [(4, E), (5, E), (4, C)], [(2, 5)]):
            self.wrong("columns", Compute, T, made)
        for thing in NO_EXPRESSIONS:
            if thing in NO_CONDITIONS:
                self.wrong("expression", Compute, T, [(4, E), (5, thing)])
        # A column that is free: in the plan, in the same item, in another one of the same items.
        self.wrong("free", Compute, USES_SEVEN, [(7, E)])
        self.wrong("free", Compute, T, [(4, ("column", 4))])
        self.wrong("free", Compute, T, [(4, E), (5, ("truth", 4))])
        self.wrong("free", Compute, T, [(5, ("null", ("+", E, ("column", 4)))), (4, E)])
        self.wrong("expression", Compute, T, [(4, ("column", 4)), (5, 5)])

    def test_keep(self):
        for thing in NO_COLUMNS:
            self.wrong("columns", Keep, T, thing)
        self.wrong("missing", Keep, T, (1, 4))
        self.wrong("missing", Keep, T, (9999,))
        self.wrong("missing", Keep, USES_SEVEN, (7,))
        self.wrong("columns", Keep, T, (4, 4))

    def test_number(self):
        for thing in NO_NUMBERS:
            self.wrong("field", Number, T, thing)
            self.wrong("field", Number, T, thing, 5)
        for thing in NO_COLUMNS:
            self.wrong("columns", Number, T, 4, thing)
        self.wrong("columns", Number, T, 3)
        self.wrong("columns", Number, T, 3, (9,))
        self.wrong("missing", Number, T, 4, (1, 9))
        self.wrong("missing", Number, T, 4, (4,))
        self.wrong("missing", Number, USES_SEVEN, 7, (7,))
        self.wrong("free", Number, USES_SEVEN, 7)
        self.wrong("free", Number, USES_SEVEN, 7, (1,))

    def test_group(self):
        for thing in NO_LISTS + [[5], [(4,)], [(4, ("sum", E), 1)], [[4, ("sum", E)]], (4, ("sum", E))]:
            self.wrong("field", Group, T, (1,), thing)
            self.wrong("field", Group, T, 5, thing)
        for thing in NO_COLUMNS:
            self.wrong("columns", Group, T, thing, ())
        for number in NO_NUMBERS:
            self.wrong("columns", Group, T, (1,), [(number, ("sum", E))])
        self.wrong("columns", Group, T, (1, 2), [(2, ("sum", E))])
        self.wrong("columns", Group, T, (1,), [(4, ("sum", E)), (4, 5)])
        self.wrong("columns", Group, T, (9,), [(0, ("sum", E))])
        self.wrong("missing", Group, T, (1, 9), [(4, ("sum", E))])
        self.wrong("missing", Group, T, (9,), [(4, 5)])
        for thing in NO_AGGREGATES:
            self.wrong("expression", Group, T, (1,), [(4, ("sum", E)), (5, thing)])
        for thing in NO_EXPRESSIONS:
            self.wrong("expression", Group, T, (1,), [(5, ("least", thing))])
            if thing is not None:
                self.wrong("expression", Group, T, (1,), [(5, ("count", thing, False))])
        self.wrong("free", Group, USES_SEVEN, (1,), [(7, ("sum", E))])
        self.wrong("free", Group, T, (1,), [(4, ("sum", ("column", 4)))])
        self.wrong("free", Group, T, (1,), [(4, ("sum", E)), (5, ("count", ("column", 4), False))])

    def test_first(self):
        for thing in NO_LISTS + [[5], [(1,)], [(1, True, 1)], [[1, True]], [(1, 0)], [(1, 1)], [(1, None)], (1, True),
                                 [(1, True), (1, False)], [(0, True)], [(10000, True)], [(True, True)], [("1", True)]]:
            self.wrong("field", First, T, thing, 1)
            self.wrong("field", First, T, thing, 1, 5)
        for thing in [thing for thing in ANYTHING if thing not in (None, 0, 1, 10 ** 59)] + [True, False, -1, 1.0, "1", -10 ** 50]:
            self.wrong("field", First, T, (), thing)
            self.wrong("field", First, T, [(9, True)], thing, (0,))
        for thing in NO_COLUMNS:
            self.wrong("columns", First, T, [(9, True)], 1, thing)
        self.wrong("missing", First, T, [(1, True), (9, True)], 1)
        self.wrong("missing", First, T, [(1, True)], 1, (1, 9))
        self.wrong("missing", First, USES_SEVEN, [(7, True)], 1)

    def test_pairs(self):
        for node in (Union, Except, Intersect):
            for thing in NO_COLUMNS:
                self.wrong("columns", node, T, T, thing)
                self.wrong("columns", node, T, U, thing)
            self.wrong("missing", node, T, U, (1, 2, 3))
            self.wrong("missing", node, T, U, (1, 2))
            self.wrong("missing", node, T, T, (1, 2))
            self.wrong("missing", node, T, T, ())
            self.wrong("missing", node, T, T, (1, 2, 3, 4))
            self.wrong("missing", node, USES_SEVEN, T, (7, 8))
            self.wrong("free", node, USES_SEVEN, T, (5, 6, 7))
            self.wrong("free", node, T, USES_SEVEN, (7, 6, 5))

    def test_fields_of_joins(self):
        for node, words in ((Join, ("full",)), (Depend, ())):
            kinds = ("inner", "left", "semi", "anti", "single") + words
            for thing in ANYTHING + ["cross", "INNER", "Mark", "right", ("inner",), ["semi"]] + ([] if words else ["full"]):
                self.wrong("field", node, thing, T, U, ALWAYS)
                self.wrong("field", node, thing, T, U, ALWAYS, 6)
                self.wrong("field", node, thing, T, T, 5)
            for thing in NO_NUMBERS:
                self.wrong("field", node, "mark", T, U, ALWAYS, thing)
                self.wrong("field", node, "mark", T, T, 5, thing)
            self.wrong("field", node, "mark", T, U, ALWAYS)
            for kind in kinds:
                for thing in [thing for thing in ANYTHING if thing is not None] + [6]:
                    self.wrong("field", node, kind, T, U, ALWAYS, thing)
                self.wrong("field", node, kind, T, T, 5, 6)

    def test_columns_and_conditions_of_joins(self):
        for node, words in ((Join, ("full",)), (Depend, ())):
            for kind in ("inner", "left", "semi", "anti", "single") + words:
                self.wrong("columns", node, kind, T, Scan("u", (9, 3)), ALWAYS)
                self.wrong("columns", node, kind, T, T, 5)
                for thing in NO_CONDITIONS:
                    self.wrong("expression", node, kind, T, U, thing)
            self.wrong("columns", node, "mark", T, U, ALWAYS, 3)
            self.wrong("columns", node, "mark", T, U, 5, 1)
            self.wrong("columns", node, "mark", T, Scan("u", (9, 3)), ALWAYS, 8)
            self.wrong("expression", node, "mark", T, U, E, 8)
            self.wrong("expression", node, "mark", USES_SEVEN, U, E, 7)

    def test_free_in_joins(self):
        uses_four = Filter(T, ("=", E, ("column", 4)))
        uses_one = Filter(U, ("=", ("column", 4), E))
        for kind in ("inner", "left", "full", "semi", "anti", "single"):
            self.wrong("free", Join, kind, T, uses_one, ALWAYS)
            self.wrong("free", Join, kind, uses_four, U, ALWAYS)
            self.wrong("expression", Join, kind, uses_four, U, 5)
            if kind != "full":
                self.wrong("free", Depend, kind, uses_four, U, ALWAYS)
                self.assertEqual((), Depend(kind, T, uses_one, ALWAYS).free)
        for node in (Join, Depend):
            self.wrong("free", node, "mark", uses_four, U, ALWAYS, 8)
            self.wrong("free", node, "mark", USES_SEVEN, U, ALWAYS, 7)
            self.wrong("free", node, "mark", T, Filter(U, ("truth", 7)), ALWAYS, 7)
            self.wrong("free", node, "mark", T, U, ("=", E, ("column", 7)), 7)
        self.wrong("free", Join, "mark", T, uses_one, ALWAYS, 8)
        self.assertEqual((), Depend("mark", T, uses_one, ALWAYS, 8).free)

    def test_numbers_at_their_ends(self):
        for number in (1, 9999):
            self.assertEqual((number,), Rows((number,), ()).columns)
            self.assertEqual((number,), Scan("t", [number]).columns)
            self.assertEqual((number,), Keep(Scan("t", [number]), [number]).columns)
            self.assertEqual((5, number), Compute(Scan("t", [5]), [(number, ("value", 1))]).columns)
            self.assertEqual((5, number), Number(Scan("t", [5]), number).columns)
            self.assertEqual((number,), Group(Scan("t", [5]), (), [(number, ("sum", ("column", 5)))]).columns)
            self.assertEqual((5, number), Join("mark", Scan("t", [5]), Scan("u", [6, 7]), ALWAYS, number).columns)
            self.assertEqual((number,), Filter(Scan("t", [5]), ("truth", number)).free)
        for number in (0, 10000, -1, True):
            self.wrong("columns", Rows, (number,), ())
            self.wrong("columns", Scan, "t", (number,))
            self.wrong("columns", Union, Scan("t", [5]), Scan("t", [5]), (number,))
            self.wrong("field", Number, T, number)
            self.wrong("field", Join, "mark", T, U, ALWAYS, number)
            self.wrong("expression", Filter, T, ("truth", number))
            self.wrong("expression", Filter, T, ("null", ("column", number)))

    def test_trees_that_are_very_deep(self):
        tree, condition = E, C
        for _ in range(200):
            tree, condition = ("+", tree, E), ("not", condition)
        plan = Compute(Filter(T, condition), [(4, tree)])
        self.assertEqual((11, 2, 3, 14), plan.renamed({1: 11, 4: 14}).columns)
        self.wrong("expression", Filter, T, ("null", condition))


if __name__ == "__main__":
    unittest.main()
