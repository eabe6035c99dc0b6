"""Facts about plans [50, 51]: what is derived, and no more."""

import unittest

from innerasks.errors import BadColumns, InvalidCount, InvalidPlan, NoColumn, UnknownTable
from innerasks.facts import Facts, facts, has_single_match
from innerasks.lotplans import First, Group, Number
from innerasks.pairplans import Depend, Except, Intersect, Join, Union
from innerasks.plans import Compute, Distinct, Filter, Keep, Rows, Scan
from innerasks.schemas import Column, Schema, Table
from samples import ANYTHING, ASKED

ALWAYS, NEVER = ("and", ()), ("or", ())
KEYED = Schema(
    Table("t", [Column("x", "whole"), Column("y", "whole", required=True), Column("s", "text")], unique=[("x",), ("y", "s")]),
    Table("u", [Column("x", "whole", required=True), Column("z", "text")], unique=[("x",)]),
    Table("v", [Column("w", "whole")]),
)
T = Scan("t", (1, 2, 3))
U = Scan("u", (4, 5))
V = Scan("v", (6,))


def column(number):
    return ("column", number)


def value(thing):
    return ("value", thing)


def equal(one, other):
    return ("=", column(one), column(other))


def solid(number):
    return ("not", ("null", column(number)))


class Told(unittest.TestCase):
    def told(self, plan, keys=None, never=None, most="any", quiet=None, follows=None, schema=KEYED):
        """Compares the facts about a plan; follows is a dict from tuples of columns to what follows from them."""
        found = facts(schema, plan)
        if keys is not None:
            self.assertEqual(keys, list(found.least_keys(most=3)))
        if never is not None:
            self.assertEqual(never, found.never_null)
        if most != "any":
            self.assertEqual(most, found.most)
        if quiet is not None:
            self.assertIs(quiet, found.is_quiet)
        for columns, more in (follows or {}).items():
            self.assertEqual(more, found.follows(columns), columns)
        return found


class Leaves(Told):
    def test_rows(self):
        self.told(Rows((1, 2), [(1, "a"), (1, "b")]), [(2,)], (1, 2), 2, True, {(): (1,), (2,): (1, 2), (1,): (1,)})
        self.told(Rows((1, 2), [(1, "a"), (2, "a"), (None, "b")]), [(1, 2)], (2,), 3, True, {(): (), (1,): (1,), (2,): (2,)})
        # Rows that are alike: no key, though a mark tells them apart.
        self.told(Rows((1, 2), [(1, "a"), (1, "a")]), [], (1, 2), 2, True, {(): (1, 2)})
        self.told(Rows((1,), [(None,), (None,)]), [], (), 2, True, {(): (1,)})
        self.told(Rows((1,), [(None,), (1,)]), [(1,)], (), 2, True, {(): ()})
        self.told(Rows((1, 2), [(None, 5)]), [()], (2,), 1, True, {(): (1, 2)})
        self.told(Rows((2, 1), ()), [()], (1, 2), 0, True, {(): (1, 2)})
        self.told(Rows((), [()]), [()], (), 1)
        self.told(Rows((), [(), ()]), [], (), 2, True, {(): ()})

    def test_scan(self):
        self.told(T, [], (2,), None, True, {(): (), (1,): (1,), (2, 3): (2, 3)})
        self.told(U, [(4,)], (4,), None, True, {(4,): (4, 5), (5,): (5,)})
        self.told(V, [], (), None, True, {(6,): (6,)})
        # The numbers need not be in order, and the names of keys neither.
        self.told(Scan("u", (5, 4)), [(5,)], (5,))
        schema = Schema(Table("t", [Column("x", "whole", required=True), Column("y", "whole", required=True),
                                    Column("z", "whole", required=True)], unique=[("z", "x"), ("y",)]))
        self.told(Scan("t", (1, 2, 3)), [(2,), (1, 3)], (1, 2, 3), schema=schema)


class OneRow(Told):
    def test_filter_makes_keys_count(self):
        self.told(Filter(T, solid(1)), [(1,)], (1, 2), None, True, {(1,): (1, 2, 3), (2,): (2,)})
        self.told(Filter(T, solid(3)), [(2, 3)], (2, 3))
        self.told(Filter(T, ("and", (solid(3), solid(1)))), [(1,), (2, 3)], (1, 2, 3))
        self.told(Filter(T, ("null", column(1))), [], (2,))
        self.told(Filter(Filter(T, solid(1)), ("and", (solid(3),))), [(1,), (2, 3)], (1, 2, 3))
        self.told(Filter(Keep(Filter(Keep(T, (1, 3)), solid(3)), (1,)), ALWAYS), [], ())

    def test_filter_and_what_cannot_be_true_of_null(self):
        for condition, never in [
            (("=", column(1), value(3)), (1, 2)), (("is", column(1), value(3)), (1, 2)), (("is", column(1), value(None)), (2,)),
            (("is", column(1), column(2)), (1, 2)), (("is", column(1), column(3)), (2,)), (("<>", column(1), column(3)), (1, 2, 3)),
            (("<", ("+", column(1), value(1)), column(2)), (1, 2)), (("or", (equal(1, 2), equal(1, 3))), (1, 2)),
            (("or", (equal(1, 2), solid(3))), (2,)), (("not", equal(1, 3)), (1, 2, 3)), (("not", ("null", column(1))), (1, 2)),
            (("not", ("or", (("null", column(1)), ("null", column(3))))), (1, 2, 3)), (("is", ("coalesce", (column(1), column(3))), value(3)), (2,)),
            (("=", ("coalesce", (column(1), value(0))), value(3)), (2,)), (("=", ("case", ((solid(1), value(1)),), value(None)), value(1)), (1, 2)),
            (("=", ("case", ((("null", column(1)), value(1)),), column(3)), value(1)), (2,)), (("=", ("param", "p"), column(1)), (1, 2)),
            (("is", ("param", "p"), column(1)), (2,)), (("=", column(9), column(1)), (1, 2)), (("is", column(9), column(1)), (2,)),
            # Of a case the branches up to the first one that is taken for sure.
            (("null", ("case", ((ALWAYS, column(1)), (equal(1, 2), value(1))), value(2))), (2,)),
            (("is", ("case", ((NEVER, value(1)), (ALWAYS, column(1)), (ALWAYS, value(1))), value(1)), value(1)), (1, 2)),
            (("is", ("case", ((ALWAYS, column(1)), (equal(2, 2), value(1))), value(1)), value(1)), (1, 2)),
            (("is", ("case", ((equal(2, 2), column(1)), (ALWAYS, column(3))), value(1)), value(1)), (2,)),
            (("is", ("case", ((("null", column(2)), value(1)), (solid(2), column(3))), value(1)), value(1)), (2, 3)),
            # What is never null in the part is known.
            (("or", (("null", column(2)), solid(1))), (1, 2)), (("or", (("is", column(2), column(1)), NEVER)), (1, 2)),
            # Nothing makes it True: then all that is told of any row is right.
            (NEVER, (1, 2, 3)), (("=", column(1), value(None)), (1, 2, 3)), (("null", column(2)), (1, 2, 3)), (("not", ALWAYS), (1, 2, 3)),
            (("is", value(1), value(None)), (1, 2, 3)), (("null", value(1)), (1, 2, 3)),
            # But two values that are not null are not compared.
            (("=", value(1), value(2)), (2,)), (("is", value(1), value(2)), (2,)), (("and", (equal(1, 2), ("<>", column(1), column(2)))), (1, 2)),
        ]:
            with self.subTest(condition):
                self.told(Filter(T, condition), never=never, most=None, quiet=True)

    def test_filter_and_sides_that_are_equal(self):
        one = ("=", column(1), ("+", column(2), column(9)))
        self.told(Filter(T, one), follows={(): (), (2,): (1, 2, 3), (1,): (1, 2, 3)})
        self.told(Filter(T, ("is", column(3), column(1))), follows={(1,): (1, 3), (3,): (1, 3), (2,): (2,), (1, 2): (1, 2, 3)})
        self.told(Filter(V, ("=", value(1), column(6))), [], (6,), None, True, {(): (6,)})
        self.told(Filter(V, ("is", column(6), value(None))), [], (), None, True, {(): (6,)})
        self.told(Filter(V, ("is", column(6), ("param", "p"))), [], (), None, True, {(): (6,)})
        self.told(Filter(V, ("=", column(6), column(9))), [], (6,), None, True, {(): (6,)})
        self.told(Filter(T, ("and", (equal(1, 2), ("and", (("=", column(3), value("a")), ALWAYS))))),
                  [(1,), (2,)], (1, 2, 3), None, True, {(): (3,), (1,): (1, 2, 3)})
        self.told(Filter(U, ("=", column(4), ("case", ((equal(5, 9), value(1)),), value(2)))), follows={(5,): (4, 5), (): ()})
        # A key whose value is told: one row, but no number of rows is derived.
        self.told(Filter(U, ("=", column(4), value(7))), [()], (4,), None, True, {(): (4, 5)})
        # Not in an or, nor below a not; no other comparison.
        for condition in [("or", (("=", column(6), value(1)),)), ("not", ("not", ("=", column(6), value(1)))),
                          ("not", ("<>", column(6), value(1))), (">=", column(6), value(1)), ("=", ("+", column(6), value(0)), value(1)),
                          ("and", (("or", (("is", column(6), value(1)), NEVER)), ALWAYS))]:
            self.told(Filter(V, condition), never=(6,), follows={(): ()})
        self.told(Filter(V, ("null", column(6))), never=(), follows={(): ()})

    def test_filter_and_truths(self):
        plan = Compute(V, [(7, ("=", column(6), value(1))), (8, ("null", column(6)))])
        self.told(plan, [], (8,), follows={(): (), (6,): (6, 7, 8)})
        self.told(Filter(plan, ("truth", 7)), [], (7, 8), follows={(): (7,)})
        self.told(Filter(plan, ("not", ("truth", 7))), [], (7, 8), follows={(): (7,)})
        self.told(Filter(plan, ("and", (("truth", 8), ("not", ("truth", 7))))), [], (7, 8), follows={(): (7, 8)})
        self.told(Filter(plan, ("or", (("truth", 7), ("truth", 7)))), [], (8,), follows={(): ()})
        self.told(Filter(plan, ("not", ("not", ("truth", 7)))), [], (8,), follows={(): ()})
        self.told(Filter(plan, ("truth", 9)), [], (8,), follows={(): ()})
        self.told(Filter(plan, ("and", (("truth", 7), NEVER))), [], (6, 7, 8))

    def test_compute(self):
        made = [(7, ("+", column(4), column(5))), (8, column(4)), (9, value(3)), (10, ("param", "p")), (11, value(None)),
                (12, ("null", column(5))), (13, equal(4, 5)), (14, ("is", column(5), column(20))), (15, ("coalesce", (column(5), column(4)))),
                (16, column(20)), (17, ("case", ((("null", column(4)), value(None)),), column(4)))]
        self.told(Compute(U, made), [(4,), (8,)], (4, 8, 9, 12, 14, 15, 17), None, True,
                  {(): (9, 10, 11, 16), (5,): (5, 9, 10, 11, 12, 14, 16), (8,): tuple(range(4, 6)) + tuple(range(7, 18)),
                   (15,): (9, 10, 11, 15, 16)})
        # A truth of a column can be all; it follows, but the column does not follow from it.
        plan = Compute(Filter(Compute(V, [(7, ("=", column(6), value(1)))]), ("or", (("truth", 7), NEVER))), [(8, ("truth", 7))])
        self.told(plan, never=(), follows={(7,): (7, 8), (8,): (8,)})
        self.told(Compute(Filter(Compute(V, [(7, ALWAYS)]), ("truth", 7)), [(8, ("truth", 7))]), never=(7,), follows={(): (7, 8)})
        self.told(Compute(Rows((1,), [(5,)]), [(2, ("-", column(1), column(1))), (3, ("+", value(1), value(1)))]), never=(1,), most=1)
        self.told(Compute(V, [(7, ("*", value(None), column(6))), (8, NEVER), (9, ("and", (equal(6, 6), NEVER))), (10, equal(6, 6))]), never=(8, 9))

    def test_keep(self):
        self.told(Keep(U, (5,)), [], (), None, True, {(5,): (5,)})
        self.told(Keep(U, (4,)), [(4,)], (4,))
        self.told(Keep(Filter(T, equal(1, 2)), (2,)), [(2,)], (2,))
        # A column that is left out still leads from one to another.
        plan = Keep(Compute(Compute(V, [(7, ("+", column(6), value(1)))]), [(8, ("*", column(7), value(2)))]), (6, 8))
        self.told(plan, follows={(6,): (6, 8), (8,): (8,)})
        plan = Keep(Compute(Compute(U, [(7, column(4))]), [(8, column(7))]), (5, 8))
        self.told(plan, [(8,)], (8,), follows={(8,): (5, 8)})

    def test_columns_left_out_whose_numbers_are_used_again(self):
        plan = Compute(Keep(U, (5,)), [(4, value(1))])
        self.told(plan, [], (4,), follows={(4,): (4,), (4, 5): (4, 5)})
        plan = Compute(Keep(Compute(U, [(7, column(4))]), (7,)), [(4, ("param", "p"))])
        self.told(plan, [(7,)], (7,), follows={(4,): (4,), (7,): (4, 7)})
        plan = Compute(Keep(Filter(T, equal(1, 2)), (3, 1)), [(2, value(None))])
        self.told(plan, [(1,)], (1,), follows={(1,): (1, 2, 3), (2,): (2,)})
        plan = Group(Filter(T, equal(1, 2)), (2,), [(1, ("sum", column(1)))])
        self.told(plan, [(2,)], (2,), follows={(2,): (1, 2), (1,): (1,)})
        plan = Union(Keep(U, (5,)), V, (4,))
        self.told(plan, [], ())

    def test_nothing_else_is_derived(self):
        for plan in (Filter(V, ALWAYS), Keep(V, (6,)), Compute(V, ()), First(V, (), None), First(V, [(6, True)], 5, (6,))):
            self.told(plan, [], (), None, True, {(): (), (6,): (6,)})


class Lots(Told):
    def test_distinct(self):
        self.told(Distinct(V), [(6,)], (), None, True, {(6,): (6,), (): ()})
        self.told(Distinct(T), [(1, 2, 3)], (2,))
        self.told(Distinct(Keep(T, (1, 3))), [(1, 3)], ())
        # What follows from the columns stays: a key that counts, and the marks behind it.
        self.told(Distinct(U), [(4,)], (4,), follows={(4,): (4, 5)})
        self.told(Distinct(Keep(U, (4,))), [(4,)], (4,))
        self.told(Distinct(Keep(Compute(V, [(7, ("+", column(6), value(1)))]), (6, 7))), [(6,)], (), follows={(6,): (6, 7), (7,): (7,)})
        # A filter that comes later makes a dependency count that is still there only if all of it followed from the columns.
        self.told(Filter(Distinct(T), solid(1)), [(1, 2, 3)], (1, 2), follows={(1,): (1,)})
        self.told(Filter(Distinct(Filter(T, solid(1))), solid(3)), [(1,), (2, 3)], (1, 2, 3))
        self.told(Distinct(Rows((1,), [(1,), (1,), (2,)])), [(1,)], (1,), 3)
        self.told(Distinct(Rows((1,), [(1,), (1,)])), [()], (1,), 2, follows={(): (1,)})

    def test_number(self):
        self.told(Number(V, 7), [(7,)], (7,), None, True, {(7,): (6, 7), (6,): (6,)})
        self.told(Number(V, 7, (6,)), [(6, 7)], (7,), None, True, {(7,): (7,)})
        self.told(Number(U, 7, (5,)), [(4,), (5, 7)], (4, 7), follows={(4,): (4, 5, 7)})
        self.told(Number(Rows((1,), [(1,), (1,)]), 2), [(2,)], (1, 2), 2)
        self.told(Number(Rows((1,), [(5,)]), 2), [()], (1, 2), 1, follows={(): (1, 2)})

    def test_group(self):
        made = [(7, ("count", column(5), False)), (8, ("sum", column(4))), (9, ("least", column(4))), (10, ("most", column(5))),
                (11, ("count", None, False)), (12, ("most", value(1))), (13, ("least", ("+", column(4), value(1)))), (14, ("sum", value(1)))]
        self.told(Group(U, (5,), made), [(5,)], (7, 9, 11, 12), None, True, {(5,): (5,) + tuple(range(7, 15)), (7,): (7,)})
        self.told(Group(U, (), made), [()], (7, 11), 1, True, {(): tuple(range(7, 15))})
        self.told(Group(U, (4,), ()), [(4,)], (4,), None, True)
        self.told(Group(T, (1, 3), [(7, ("count", None, False))]), [(1, 3)], (7,))
        self.told(Group(T, (2,), ()), [(2,)], (2,))
        self.told(Group(Rows((1, 2), [(1, 2), (1, 3), (2, 4)]), (1,), [(3, ("most", column(2)))]), [(1,)], (1, 3), 3)
        self.told(Group(Rows((1,), ()), (), [(2, ("most", column(1)))]), [()], (), 1)
        # What follows from the columns of the lots stays, though it is left out.
        plan = Group(Compute(V, [(7, ("+", column(6), value(1)))]), (6,), [(8, ("least", column(7)))])
        self.told(plan, [(6,)], ())
        self.told(Compute(Group(Filter(T, equal(1, 2)), (2,), ()), [(5, column(2))]), [(2,), (5,)], (2, 5))

    def test_first(self):
        self.told(First(V, [(6, True)], 1), [()], (), 1, True, {(): (6,)})
        self.told(First(V, (), 0), [()], (), 0)
        self.told(First(V, (), 5), [], (), 5)
        self.told(First(V, (), None), [], (), None)
        self.told(First(Rows((1,), [(1,), (2,)]), (), 5), [(1,)], (1,), 2)
        self.told(First(Rows((1,), [(1,), (2,)]), (), 1), [()], (1,), 1)
        self.told(First(U, [(4, False)], 1, (5,)), [(4,), (5,)], (4,), None, True, {(5,): (4, 5)})
        self.told(First(V, (), 0, (6,)), [(6,)], (), None)
        self.told(First(V, (), 2, (6,)), [], (), None)
        self.told(First(Rows((1,), [(1,), (1,)]), (), 1, (1,)), [()], (1,), 2, follows={(): (1,)})


class Pairs(Told):
    def test_union(self):
        self.told(Union(U, U, (7, 8)), [], (7,), None, True, {(7,): (7,), (): ()})
        self.told(Union(U, Keep(T, (1, 3)), (4, 5)), [], (), None)
        self.told(Union(Rows((1,), [(1,)]), Rows((2,), [(1,), (None,)]), (1,)), [], (), 3)
        self.told(Union(Rows((1,), [(1,)]), Rows((2,), [(1,)]), (3,)), [], (3,), 2, True, {(): ()})
        self.told(Union(Rows((1,), [(5,)]), Rows((2,), ()), (3,)), [()], (3,), 1, True, {(): (3,)})
        self.told(Union(Rows((1,), ()), V, (3,)), [], (), None)

    def test_except(self):
        self.told(Except(U, U, (7, 8)), [(7,)], (7,), None, True, {(7,): (7, 8), (8,): (8,)})
        self.told(Except(U, U, (5, 4)), [(5,)], (5,))
        self.told(Except(Rows((1,), [(1,), (2,)]), V, (3,)), [(3,)], (3,), 2)
        self.told(Except(V, Rows((1,), [(1,)]), (3,)), [], (), None)
        self.told(Except(Keep(T, (1, 2)), Keep(Filter(T, solid(1)), (1, 2)), (7, 8)), [], (8,))

    def test_intersect(self):
        self.told(Intersect(U, Keep(T, (2, 3)), (7, 8)), [(7,)], (7,), None, True, {(7,): (7, 8)})
        # A key of either part; a column that is never null in either.
        self.told(Intersect(Keep(T, (3, 1)), Keep(Filter(T, ("and", (solid(1), solid(3)))), (3, 1)), (7, 8)), [(8,)], (7, 8), None)
        self.told(Intersect(V, V, (7,)), [], ())
        self.told(Intersect(V, Rows((1,), [(1,), (1,)]), (3,)), [], (3,), 2, True, {(): (3,)})
        self.told(Intersect(Rows((1,), [(1,), (2,), (3,)]), Rows((1,), [(None,), (1,)]), (3,)), [(3,)], (3,), 2)
        self.told(Intersect(Rows((1,), [(1,), (2,), (3,)]), Rows((1,), [(1,)]), (3,)), [()], (3,), 1)


class Joins(Told):
    def test_inner(self):
        self.told(Join("inner", U, V, ALWAYS), [], (4,), None, True, {(4,): (4, 5), (6,): (6,)})
        self.told(Join("inner", U, Scan("u", (7, 8)), ALWAYS), [(4, 7)], (4, 7))
        self.told(Join("inner", U, Scan("u", (7, 8)), equal(4, 7)), [(4,), (7,)], (4, 7), follows={(4,): (4, 5, 7, 8)})
        self.told(Join("inner", U, Scan("u", (7, 8)), equal(5, 7)), [(4,)], (4, 5, 7), follows={(5,): (5, 7, 8), (7,): (5, 7, 8)})
        self.told(Join("inner", T, U, ("and", (equal(1, 4), solid(3)))), [(1,), (4,), (2, 3)], (1, 2, 3, 4))
        self.told(Join("inner", Rows((1,), [(1,), (1,)]), Rows((2,), [(1,), (2,), (3,)]), ALWAYS), [], (1, 2), 6, True, {(): (1,)})
        self.told(Join("inner", Rows((1,), [(1,)]), Rows((2,), [(1,)]), NEVER), [()], (1, 2), 1)
        self.told(Join("inner", V, Rows((2,), ()), ALWAYS), most=None)
        self.told(Join("inner", V, U, NEVER), never=(4, 5, 6))

    def test_semi(self):
        self.told(Join("semi", T, U, ("and", (equal(1, 4), ("=", column(3), value("a"))))), [(1,), (2,)], (1, 2, 3), None, True,
                  {(): (3,), (2,): (1, 2, 3)})
        # Only what is of columns of left alone: nothing follows from columns of right.
        self.told(Join("semi", V, Scan("u", (7, 8)), ("and", (equal(6, 7), ("=", column(7), value(3))))), [], (6,), None, True, {(): ()})
        self.told(Join("semi", T, U, ("is", column(1), ("+", column(2), column(4)))), follows={(2,): (2,)})
        self.told(Join("semi", T, U, ("is", column(1), ("+", column(2), column(9)))), follows={(2,): (1, 2)})
        self.told(Join("semi", T, U, ("is", column(1), column(4))), [(1,)], (1, 2))
        self.told(Join("semi", Rows((1,), [(1,), (2,)]), V, NEVER), [(1,)], (1,), 2)
        self.told(Join("semi", V, Compute(U, [(7, equal(4, 5))]), ("truth", 7)), [], ())

    def test_semi_and_numbers_that_are_used_again(self):
        # Nothing is kept of the columns of right, whose numbers are free then.
        plan = Join("semi", Filter(T, solid(1)), U, ("and", (equal(1, 4), ("=", column(5), value("a")))))
        self.told(Compute(plan, [(4, ("param", "p")), (5, ("null", column(3)))]), [(1,)], (1, 2, 5),
                  follows={(): (4,), (3,): (3, 4, 5), (4,): (4,)})
        self.told(Compute(plan, [(4, ("+", column(3), value(1))), (5, column(3))]), [(1,)], (1, 2), follows={(): (), (1,): (1, 2, 3, 4, 5)})
        self.told(Compute(Join("semi", V, U, equal(6, 4)), [(4, ("*", column(6), column(6))), (5, value(1))]),
                  follows={(): (5,), (4,): (4, 5)})
        self.told(Number(Join("semi", V, U, equal(6, 4)), 4, (6,)), follows={(6,): (6,), (4,): (4,)})
        self.told(Number(Join("anti", V, U, equal(6, 4)), 4, (6,)), follows={(6,): (6,), (4,): (4,)})

    def test_anti(self):
        self.told(Join("anti", T, U, ("and", (equal(1, 4), ("=", column(3), value("a"))))), [], (2,), None, True, {(): ()})
        self.told(Join("anti", U, V, equal(4, 6)), [(4,)], (4,))
        self.told(Join("anti", Rows((1,), [(1,)]), V, ALWAYS), [()], (1,), 1)

    def test_mark(self):
        self.told(Join("mark", U, V, equal(4, 6), 9), [(4,)], (4,), None, True, {(4,): (4, 5, 9), (9,): (9,)})
        self.told(Join("mark", U, Filter(V, solid(6)), equal(4, 6), 9), [(4,)], (4, 9))
        self.told(Join("mark", V, U, ("is", column(4), column(6)), 9), [], (9,), None, True, {(6,): (6,), (): ()})
        self.told(Join("mark", V, U, ALWAYS, 9), [], (9,))
        self.told(Join("mark", Rows((1,), [(1,)]), V, equal(1, 6), 9), [()], (1,), 1, True, {(): (1, 9)})
        self.told(Join("mark", V, U, ("or", (equal(6, 4), ALWAYS)), 4), [], (4,))

    def test_left(self):
        other = Scan("u", (7, 8))
        # The keys of right stay for rows that have a partner: its columns are null together.
        self.told(Join("left", U, other, equal(5, 7)), [(4,)], (4,), None, True, {(7,): (7, 8), (4,): (4, 5, 7, 8), (5,): (5,)})
        self.told(Join("left", U, other, ALWAYS), [(4, 7)], (4,))
        self.told(Join("left", U, other, ("<", column(4), column(7))), [(4, 7)], (4,), None, True, {(7,): (7, 8)})
        self.told(Join("left", U, V, equal(4, 6)), [], (4,), None, True, {(4,): (4, 5)})
        self.told(Join("left", V, other, equal(6, 7)), [], (), None, True, {(6,): (6,)})
        self.told(Join("left", Rows((1,), [(1,), (2,)]), Rows((2,), [(1,), (1,), (1,)]), ALWAYS), [], (1,), 6)
        self.told(Join("left", Rows((1,), [(1,), (2,)]), Rows((2,), ()), ALWAYS), [(1,)], (1,), 2)
        self.told(Join("left", Rows((1,), [(1,), (2,)]), Rows((2,), [(5,)]), NEVER), [(1,)], (1,), 2)
        self.told(Join("left", Rows((1,), [(1,), (2,)]), V, ALWAYS), most=None)
        self.told(Join("left", V, Rows((2,), [(5,)]), ALWAYS), most=None)

    def test_fill(self):
        # A column that follows from none does not so beside rows of nulls.
        right = Filter(U, ("=", column(5), value("a")))
        self.told(right, follows={(): (5,)})
        self.told(Join("left", V, right, ALWAYS), follows={(): (), (4,): (4, 5), (6,): (6,)})
        # From a column that can be null there follows something only where it is not.
        right = Filter(Scan("t", (1, 2, 3)), ("is", column(1), column(3)))
        self.told(right, follows={(1,): (1, 3), (3,): (1, 3)})
        self.told(Join("left", V, right, ALWAYS), follows={(1,): (1,), (3,): (3,), (1, 2): (1, 2)})
        plan = Filter(Join("left", V, right, ALWAYS), solid(1))
        self.told(plan, follows={(1,): (1, 2, 3), (3,): (3,)})
        self.told(Filter(Join("left", V, right, ALWAYS), solid(3)), follows={(3,): (1, 3), (1,): (1,)})
        # If one of the columns is never null, what follows from them does so in rows of nulls, too.
        made = Compute(U, [(7, ("+", column(4), column(5))), (8, ("+", column(5), value(1)))])
        self.told(Join("left", V, made, ALWAYS), follows={(4,): (4, 5, 7), (4, 5): (4, 5, 7), (5,): (5,)})
        self.told(Filter(Join("left", V, made, ALWAYS), solid(5)), follows={(5,): (5, 8)})
        # A key that does not count keeps its needs, and may count behind a filter.
        plan = Join("left", V, T, ALWAYS)
        self.told(plan, follows={(1,): (1,)}, never=())
        self.told(Filter(plan, solid(1)), follows={(1,): (1, 2, 3), (2, 3): (2, 3)}, never=(1,))
        # Columns that are left out are the part's own, too.
        hidden = Keep(Compute(U, [(7, column(4))]), (5, 7))
        self.told(Join("left", V, hidden, ALWAYS), follows={(7,): (5, 7)})
        self.told(Join("left", V, Compute(V.renamed({6: 9}), [(10, value(5))]), ALWAYS), follows={(9,): (9,), (): ()}, never=())

    def test_full(self):
        other = Scan("u", (7, 8))
        self.told(Join("full", U, other, equal(4, 7)), [(4, 7)], (), None, True, {(4,): (4, 5), (7,): (7, 8), (5,): (5,)})
        self.told(Join("full", Rows((1,), [(1,)]), Rows((2,), [(1,)]), ALWAYS), [(1, 2)], (), None, True, {(): ()})
        self.told(Join("full", Rows((1,), [(1,), (None,)]), Rows((2,), ()), ALWAYS), [], (), None)

    def test_single(self):
        other = Scan("u", (7, 8))
        self.told(Join("single", U, other, equal(5, 7)), [(4,)], (4,), None, True, {(4,): (4, 5, 7, 8), (7,): (7, 8)})
        # The row of right follows from that of left, whatever the condition is.
        self.told(Join("single", U, V, ALWAYS), [(4,)], (4,), None, False, {(4,): (4, 5, 6)})
        self.told(Join("single", Rows((1,), [(1,), (2,)]), Rows((2,), [(1,), (2,)]), ALWAYS), [(1,)], (1,), 2, False)
        self.told(Join("single", V, Rows((2,), [(1,)]), ALWAYS), [], (), None, True)

    def test_quiet(self):
        bad = Join("single", U, V, ALWAYS)
        for plan in [Filter(bad, ALWAYS), Keep(bad, ()), Distinct(bad), Number(bad, 9), Group(bad, (), ()), First(bad, (), 0), Compute(bad, ()),
                     Union(bad, bad, (1, 2, 3)), Except(T, bad, (1, 2, 3)), Intersect(bad, T, (1, 2, 3)),
                     Join("inner", T, bad, ALWAYS), Join("semi", bad, T, ALWAYS), Join("full", T, bad, ALWAYS), Join("mark", T, bad, ALWAYS, 9),
                     Join("single", Rows((1,), [(1,)]), bad, NEVER), Depend("anti", T, bad, ALWAYS), Join("left", T, First(bad, (), 1), ALWAYS)]:
            self.told(plan, quiet=False)
        self.told(Join("single", T, First(V, (), 1), ALWAYS), quiet=True)
        self.told(Join("single", T, Group(U, (), ()), ALWAYS), quiet=True)
        self.told(Join("single", T, Filter(U, ("=", column(4), ("param", "p"))), ALWAYS), quiet=True)
        self.told(Join("single", T, U, ("=", column(4), ("+", column(1), column(2)))), quiet=True)
        self.told(Join("single", T, U, ("and", (equal(5, 3), equal(1, 2)))), quiet=False)
        self.told(Join("single", Rows((1,), ()), V, ALWAYS), quiet=False)


class Depends(Told):
    RIGHT = Filter(V, ("=", column(6), ("+", column(4), value(1))))

    def test_x_gets_the_columns_of_left_that_are_free(self):
        self.told(self.RIGHT, follows={(): (6,)}, never=(6,))
        self.told(Depend("inner", U, self.RIGHT, ALWAYS), [], (4, 6), None, True, {(): (), (4,): (4, 5, 6)})
        self.told(Depend("inner", U, Filter(V, ("=", column(6), column(5))), ALWAYS), follows={(): (), (5,): (5, 6), (4,): (4, 5, 6)})
        # Whatever right derives is for one row of left: also what its number of rows tells.
        right = First(Filter(V, ("<", column(6), column(5))), (), 1)
        self.told(right, [()], most=1)
        self.told(Depend("inner", U, right, ALWAYS), [(4,)], (4, 6), None, True, {(5,): (5, 6), (): ()})
        self.told(Depend("inner", U, First(V, (), 1), ALWAYS), [(4,)], (4,), None, True, {(): (6,)})
        self.told(Depend("inner", V, First(Filter(U, equal(4, 6)), (), 1), ALWAYS), [], (4,), None, True, {(6,): (4, 5, 6)})
        lots = Group(self.RIGHT, (6,), [(8, ("count", None, False))])
        self.told(Depend("inner", U, lots, ALWAYS), [(4,)], (4, 6, 8), follows={(6,): (6,), (4,): (4, 5, 6, 8)})

    def test_kinds(self):
        rows = Rows((1, 2), [(1, 1), (2, 1)])
        first = First(Filter(V, equal(6, 1)), (), 1)
        self.told(Depend("left", rows, first, ALWAYS), [(1,)], (1, 2), 2, True, {(): (2,), (1,): (1, 2, 6), (6,): (2, 6)})
        self.told(Depend("single", rows, first, ALWAYS), [(1,)], (1, 2), 2, True)
        self.told(Depend("single", rows, Filter(V, equal(6, 1)), ALWAYS), [(1,)], (1, 2), 2, False)
        # The match is single; but that 4 follows from 1 alone is forgotten, for it may be null without a match.
        self.told(Depend("single", T, Filter(U, equal(4, 1)), ALWAYS), [], (2,), None, True, {(1,): (1,), (1, 4): (1, 4, 5)})
        self.told(Depend("single", Filter(T, solid(1)), Filter(U, equal(4, 1)), ALWAYS), [(1,)], (1, 2), follows={(1,): (1, 2, 3, 4, 5)})
        self.told(Depend("semi", rows, first, ("=", column(1), value(1))), [()], (1, 2), 2, True, {(): (1, 2)})
        self.told(Depend("anti", rows, first, ("=", column(1), value(1))), [(1,)], (1, 2), 2, True)
        self.told(Depend("mark", rows, first, ("=", column(1), value(1)), 9), [(1,)], (1, 2, 9), 2, True, {(1,): (1, 2, 9)})
        self.told(Depend("mark", rows, first, ("=", column(6), value(1)), 9), never=(1, 2, 9))

    def test_fill_and_columns_of_left(self):
        # A dependency with columns of left alone is forgotten beside rows of nulls; with own ones it may need them.
        self.told(Depend("left", T, Filter(V, ("is", column(6), column(1))), ALWAYS), follows={(1,): (1,), (1, 6): (1, 6)})
        self.told(Depend("inner", T, Filter(V, ("is", column(6), column(1))), ALWAYS), follows={(1,): (1, 6)})
        right = Compute(Filter(U, ("<>", column(4), column(1))), [(7, ("+", column(5), value(1)))])
        self.told(Depend("inner", T, right, ALWAYS), follows={(5,): (5,), (1, 5): (1, 5, 7), (1, 4): (1, 4, 5, 7)})
        self.told(Depend("left", T, right, ALWAYS), follows={(1, 5): (1, 5), (1, 4): (1, 4, 5), (4,): (4,)})
        self.told(Filter(Depend("left", T, right, ALWAYS), solid(5)), follows={(1, 5): (1, 5, 7), (1, 4): (1, 4, 5, 7), (5,): (5,)})

    def test_free_columns_are_not_looked_at(self):
        left = Compute(V, [(7, ("=", column(6), value(1)))])
        self.told(Depend("inner", left, Filter(U, ("truth", 7)), ALWAYS), [], (4,), follows={(): ()})
        self.told(Depend("inner", left, Filter(U, ("=", column(6), value(1))), ALWAYS), [], (4,), follows={(): ()})
        self.told(Depend("inner", left, Filter(U, ("not", ("null", column(6)))), ALWAYS), [], (4,), follows={(): ()})
        self.told(Filter(U, ("and", (("truth", 9), ("=", column(8), value(1)), ("is", column(5), column(8))))), [(4,)], (4,),
                  follows={(): (5,)})
        self.told(Compute(U, [(7, column(8)), (9, ("truth", 10)), (11, ("+", column(4), column(8)))]), [(4,)], (4,),
                  follows={(): (7, 9), (4,): (4, 5, 7, 9, 11)})

    def test_columns_of_two_lefts(self):
        inner = Depend("inner", U, Filter(V, ("=", column(6), ("+", column(4), column(1)))), ALWAYS)
        self.told(inner, follows={(4,): (4, 5, 6)})
        self.told(Depend("inner", T, inner, ALWAYS), follows={(4,): (4,), (1, 4): (1, 4, 5, 6)})


class Asked(Told):
    PLAN = Join("inner", U, Scan("t", (1, 2, 3)), ("and", (solid(1), solid(3))))

    def test_class(self):
        found = facts(KEYED, T)
        self.assertIsInstance(found, Facts)
        self.assertEqual(KEYED, found.schema)
        self.assertEqual(T, found.plan)
        self.assertEqual(found, Facts(KEYED, T))
        self.assertIsInstance(found.never_null, tuple)
        self.assertIs(True, found.is_quiet)

    def test_equal(self):
        for one, other, is_equal in [
            (facts(KEYED, T), facts(KEYED, Scan("t", (1, 2, 3))), True), (facts(KEYED, T), facts(KEYED, Scan("t", (1, 2, 4))), False),
            (facts(KEYED, T), facts(ASKED, T), False), (facts(KEYED, T), facts(KEYED, T).behind(ALWAYS), False),
            (facts(KEYED, Filter(T, ALWAYS)), facts(KEYED, T).behind(ALWAYS), True),
        ]:
            self.assertIs(is_equal, one == other)
        for thing in ANYTHING + [T, KEYED]:
            self.assertFalse(facts(KEYED, T) == thing)

    def test_follows_and_keys(self):
        found = facts(KEYED, self.PLAN)
        self.assertEqual([(1, 4), (2, 3, 4)], list(found.least_keys(most=3)))
        self.assertEqual((1, 2, 3, 4, 5), found.follows([4, 1]))
        self.assertEqual((1, 2, 3), found.follows((1, 1)))
        self.assertEqual((), found.follows(()))
        for columns, is_key in [((1, 4), True), ([4, 1, 1], True), ((2, 3, 4), True), ((4, 3, 2, 5), True), ((1, 2, 3, 5), False), ((4,), False),
                                ([], False)]:
            self.assertIs(is_key, found.is_key(columns))

    def test_no_column(self):
        found = facts(KEYED, self.PLAN)
        for thing in ANYTHING + [6, 9999, True, 10000, (1,), [4], "1", 1.5]:
            if isinstance(thing, int) and not isinstance(thing, bool) and 1 <= thing <= 5:
                continue
            for call in (found.follows, found.is_key):
                for columns in ([thing], (4, thing, 77), [1, 4, thing, None]):
                    with self.assertRaises(NoColumn) as caught:
                        call(columns)
                    self.assertIs(thing, caught.exception.value)

    def test_least_keys(self):
        found = facts(KEYED, self.PLAN)
        self.assertEqual([(1, 4)], list(found.least_keys()))
        self.assertEqual([[], [], [(1, 4)], [(1, 4), (2, 3, 4)]], [list(found.least_keys(most=most)) for most in range(4)])
        self.assertEqual([()], list(facts(KEYED, Rows((1,), [(1,)])).least_keys(most=0)))
        self.assertEqual([()], list(facts(KEYED, Rows((1,), [(1,)])).least_keys(most=3)))
        rows = Rows((9, 3, 7), [(1, 1, 1), (1, 2, 2), (2, 1, 2), (2, 2, 1)])
        self.assertEqual([(3, 7, 9)], list(facts(KEYED, rows).least_keys(most=3)))
        made = Compute(Scan("u", (9, 5)), [(3, column(9)), (7, column(9))])
        self.assertEqual([(3,), (7,), (9,)], list(facts(KEYED, made).least_keys()))
        pair = Join("inner", made, Scan("u", (2, 1)), ALWAYS)
        self.assertEqual([(2, 3), (2, 7), (2, 9)], list(facts(KEYED, pair).least_keys()))
        keys = facts(KEYED, pair).least_keys(most=3)
        self.assertIs(keys, iter(keys))
        self.assertEqual((2, 3), next(keys))

    def test_invalid_counts(self):
        for thing in ANYTHING + [4, -1, True, False, 1.0, "2", 10 ** 50]:
            if isinstance(thing, int) and not isinstance(thing, bool) and 0 <= thing <= 3:
                continue
            keys = facts(KEYED, self.PLAN).least_keys(most=thing)
            with self.assertRaises(InvalidCount) as caught:
                next(keys)
            self.assertIs(thing, caught.exception.value)

    def test_behind(self):
        found = facts(KEYED, T)
        told = found.behind(solid(1))
        self.assertEqual(facts(KEYED, Filter(T, solid(1))), told)
        self.assertEqual([(1,)], list(told.least_keys()))
        self.assertEqual([(1,), (2, 3)], list(told.behind(solid(3)).least_keys()))
        self.assertEqual([], list(found.least_keys()))
        for thing in ANYTHING + [column(1)]:
            with self.assertRaises(InvalidPlan) as caught:
                found.behind(thing)
            self.assertEqual("expression", caught.exception.word)

    def test_errors_of_scans(self):
        for plan, error, word in [
            (Scan("w", (1,)), UnknownTable, "w"), (Scan("t", (1, 2)), BadColumns, "t"), (Scan("v", ()), BadColumns, "v"),
            (Join("semi", Scan("v", ()), Scan("w", ()), ALWAYS), BadColumns, "v"),
            (Join("single", Scan("w", ()), Scan("v", ()), ALWAYS), UnknownTable, "w"),
            (Depend("single", T, Filter(Scan("u", (4,)), equal(4, 1)), ALWAYS), BadColumns, "u"),
        ]:
            for call in [facts] + ([has_single_match] if isinstance(plan, Join) else []):
                with self.assertRaises(error) as caught:
                    call(KEYED, plan)
                self.assertEqual(word, caught.exception.word)
        # Free columns do no harm.
        self.assertEqual((1,), facts(KEYED, Filter(Rows((1,), [(1,), (None,)]), equal(1, 9))).never_null)

    def test_has_single_match(self):
        for kind in ("inner", "left", "full", "semi", "anti", "mark", "single"):
            mark = 9 if kind == "mark" else None
            for left, right, condition, is_single in [
                (T, U, equal(1, 4), True), (T, U, ("and", (equal(1, 4), solid(3))), True), (U, T, equal(4, 1), True), (T, U, equal(3, 5), False),
                (V, T, equal(6, 2), False), (U, T, ("and", (equal(4, 2), equal(5, 3))), True), (U, V, equal(4, 6), False),
                (T, U, ("is", column(1), column(4)), True), (V, Scan("t", (1, 2, 3)), ("is", column(6), column(1)), False),
                (V, First(U, (), 1), ALWAYS, True), (V, Rows((1,), [(1,), (2,)]), ALWAYS, False), (V, Rows((1,), ()), ALWAYS, True),
                (Rows((1,), [(1,)]), V, equal(1, 6), False), (T, U, NEVER, False), (V, Distinct(Scan("v", (8,))), equal(6, 8), True),
            ]:
                self.assertIs(is_single, has_single_match(KEYED, Join(kind, left, right, condition, mark)), (kind, condition))
                if kind != "full":
                    self.assertIs(is_single, has_single_match(KEYED, Depend(kind, left, right, condition, mark)), (kind, condition))
        self.assertIs(True, has_single_match(KEYED, Depend("semi", T, Filter(U, equal(4, 1)), ALWAYS)))
        self.assertIs(False, has_single_match(KEYED, Depend("semi", T, Filter(U, equal(5, 3)), ALWAYS)))
        self.assertIs(True, has_single_match(KEYED, Join("single", Join("single", V, T, ALWAYS), U, equal(1, 4))))


if __name__ == "__main__":
    unittest.main()
