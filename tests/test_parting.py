"""Least databases [56, 57]."""

import random
import unittest
from itertools import combinations_with_replacement, islice, product

from innerasks.databases import Database
from innerasks.errors import BadColumns, BadParameter, Broken, FreeColumns, InvalidStore, TooMany, UnknownTable
from innerasks.lotplans import First, Group
from innerasks.pairplans import Depend, Join, Union
from innerasks.parting import Store
from innerasks.plans import Compute, Distinct, Filter, Keep, Rows, Scan
from innerasks.roads import home
from innerasks.rules import Rule, all_places
from innerasks.running import run
from innerasks.schemas import Column, Schema, Table
from innerasks.values import row_place
from asking import outcome
from samples import ANYTHING
from shaped_plans import SHAPES, ShapeDrawer
from test_facts import column, equal, value
from test_rules import ALWAYS, NEVER, all_of

# Each schema with stores that are small enough.
ONE = Schema(Table("a", [Column("x", "whole")]))
PAIR = Schema(Table("a", [Column("x", "whole", required=True), Column("s", "text")], unique=[("x",)]), Table("b", [Column("y", "whole")]))
LINKED = Schema(
    Table("a", [Column("x", "whole"), Column("y", "whole", required=True)], unique=[("y", "x"), ("x",)], references=[(("y",), "b", ("z",))]),
    Table("b", [Column("z", "whole")], unique=[("z",)], references=[(("z",), "a", ("x",))]),
    Table("c", [Column("s", "text", required=True)]),
)
WIDE = [("u", "whole"), ("v", "whole"), ("w", "whole")]
STORES = [
    (ONE, [1], 0), (ONE, [1], 6), (ONE, [None, 2, 1], 3), (ONE, ["a"], 2), (ONE, ["a", None], 2), (PAIR, [None, 1, "a"], 3), (PAIR, [2, "b", 1, "a"], 3),
    (PAIR, [None], 2), (LINKED, [1, 2], 4), (LINKED, [None, 1], 4), (LINKED, [2, 1, "a"], 3), (LINKED, ["b", "a"], 2), (LINKED, [3, None, "z", -1], 2),
]


def rows_told(table, worths):
    told = []
    for part in table.columns:
        told.append([one for one in worths if one is None and not part.required or isinstance(one, str) and part.kind == "text"
                     or isinstance(one, int) and part.kind == "whole"])
    return list(product(*told))


def all_choices(schema, worths, most):
    """Every choice of rows, as a list of bags, in no order."""
    rows = [(index, row) for index, table in enumerate(schema.tables) for row in rows_told(table, worths)]
    for many in range(most + 1):
        for chosen in combinations_with_replacement(rows, many):
            yield [sorted([row for at, row in chosen if at == index], key=row_place) for index in range(len(schema))]


def place(bags):
    return (sum(map(len, bags)), [(len(bag), [row_place(row) for row in bag]) for bag in bags])


def databases_told(schema, worths, most):
    told = []
    for bags in sorted(all_choices(schema, worths, most), key=place):
        try:
            told.append(Database(schema, {table.name: bag for table, bag in zip(schema.tables, bags)}))
        except Broken:
            pass
    return told


class Stores(unittest.TestCase):
    def test_properties(self):
        store = Store(PAIR, ["b", 10, None, 2], 3)
        self.assertEqual(PAIR, store.schema)
        self.assertEqual((None, 2, 10, "b"), store.worths)
        self.assertEqual(3, store.most)
        self.assertEqual(("a",), Store(ONE, ("a",), 0).worths)
        listed = ["b", 1]
        Store(ONE, listed, 2)
        self.assertEqual(["b", 1], listed)

    def test_worths_that_are_wrong(self):
        bad = [thing for thing in ANYTHING if not (isinstance(thing, (list, tuple)))] + [
            [], (), [1, 1], ["a", 2, "a"], [None, None], [1, 2, 3, 4, 5], (1, 2, 3, None, "a"), [True], [1, False], [1.0], [[1]], [(1,)], ["%"], ["a" * 41],
            ["é"], [ONE], {1: 2}, {1, 2}, "ab", [b"a"], [1, [2]], [{}, 1],
        ]
        for thing in bad:
            with self.assertRaises(InvalidStore) as caught:
                Store(ONE, thing, 2)
            self.assertEqual("worths", caught.exception.word)
            with self.assertRaises(InvalidStore) as caught:
                Store(ONE, thing, 99)
            self.assertEqual("worths", caught.exception.word)
        for thing in ([None], [1, 2, 3, 4], ["a" * 40], [10 ** 59, -10 ** 59]):
            self.assertEqual(len(thing), len(Store(ONE, thing, 2).worths))

    def test_most_that_is_wrong(self):
        for thing in ANYTHING + [7, -1, 2.0, "3", [1]]:
            if isinstance(thing, int) and not isinstance(thing, bool) and 0 <= thing <= 6:
                self.assertEqual(thing, Store(ONE, [1], thing).most)
                continue
            with self.assertRaises(InvalidStore) as caught:
                Store(ONE, [1], thing)
            self.assertEqual("most", caught.exception.word)

    def test_number_of_choices(self):
        for schema, worths, most in STORES:
            self.assertEqual(len(list(all_choices(schema, worths, most))), Store(schema, worths, most).number_of_choices)
        # Two values and a null in one column, none where null is not allowed.
        self.assertEqual(1 + 3 + 6, Store(ONE, [None, 1, 2], 2).number_of_choices)
        self.assertEqual(1, Store(ONE, ["a"], 6).number_of_choices)
        self.assertEqual(1, Store(ONE, [1, 2, 3], 0).number_of_choices)
        wide = Schema(*[Table(name, [Column(part, "whole") for part in "abcdef"]) for name in "pqrstu"])
        self.assertEqual(24577 * 24578 // 2, Store(wide, [1, 2, 3, None], 2).number_of_choices)
        six = 1
        for many in range(1, 7):
            six = six * (24576 + many) // many
        self.assertEqual(six, Store(wide, [1, 2, 3, None], 6).number_of_choices)

    def test_walk(self):
        for schema, worths, most in STORES:
            self.assertEqual(databases_told(schema, worths, most), list(Store(schema, worths, most).walk()), (worths, most))

    def test_the_order_of_walk(self):
        store = Store(PAIR, [2, "b", 1, None], 2)
        told = [(base["a"], base["b"]) for base in store.walk()]
        self.assertEqual([
            ([], []), ([], [(None,)]), ([], [(1,)]), ([], [(2,)]), ([(1, None)], []), ([(1, "b")], []), ([(2, None)], []), ([(2, "b")], []),
            ([], [(None,), (None,)]), ([], [(None,), (1,)]), ([], [(None,), (2,)]), ([], [(1,), (1,)]), ([], [(1,), (2,)]), ([], [(2,), (2,)]),
            ([(1, None)], [(None,)]),
        ], told[:15])
        self.assertEqual([([(1, None), (2, None)], []), ([(1, None), (2, "b")], []), ([(1, "b"), (2, None)], []), ([(1, "b"), (2, "b")], [])], told[-4:])
        for base in Store(LINKED, [1, 2, "a"], 4).walk():
            self.assertIsNone(Database.first_break(LINKED, base.rows))

    def test_too_many(self):
        wide = Schema(Table("a", [Column(part, "whole") for part in "abcdef"]))
        store = Store(wide, [1, 2, 3], 2)
        self.assertGreater(store.number_of_choices, 20000)
        # The generator raises when its first database is asked for.
        walked = store.walk()
        with self.assertRaises(TooMany) as caught:
            next(walked)
        self.assertEqual(20000, caught.exception.limit)
        plan = Scan("a", (1, 2, 3, 4, 5, 6))
        with self.assertRaises(TooMany) as caught:
            store.parted(plan, plan)
        self.assertEqual(20000, caught.exception.limit)
        # Ahead of the errors of run.
        with self.assertRaises(TooMany):
            store.parted(Filter(plan, ("=", column(9), value(1))), Scan("q", ()))
        # 64 + 64 + 64 + 4 + 2 rows that are possible, two of them, are not too many; with 4 + 4 they are.
        def near(last):
            return Schema(*[Table(name, [Column(part, kind) for part, kind in columns]) for name, columns in (
                ("a", WIDE), ("b", WIDE), ("c", WIDE), ("d", WIDE[:1]), ("e", last))])
        allowed = Store(near([("u", "text")]), [1, 2, 3, 4], 2)
        self.assertEqual(19503, Store(allowed.schema, [1, 2, 3, 4], 2).number_of_choices)
        self.assertEqual(19503, len(list(allowed.walk())))
        refused = Store(near(WIDE[:1]), [1, 2, 3, 4], 2)
        self.assertEqual(20301, refused.number_of_choices)
        with self.assertRaises(TooMany):
            next(refused.walk())
        few = Store(Schema(Table("a", [Column("x", "whole"), Column("y", "whole"), Column("z", "whole")])), [1, 2, 3], 4)
        self.assertEqual(31465, few.number_of_choices)
        self.assertEqual(4060, Store(few.schema, [1, 2, 3], 3).number_of_choices)
        self.assertEqual(4060, len(list(Store(few.schema, [1, 2, 3], 3).walk())))
        self.assertEqual(2, len(list(islice(Store(few.schema, [1, 2, 3], 3).walk(), 2))))


A = Scan("a", (1, 2))
B = Scan("b", (3,))


class Parted(unittest.TestCase):
    STORE = Store(PAIR, [None, 1, 2, "a"], 3)

    def parted(self, one, other, rows, **more):
        found = self.STORE.parted(one, other, **more)
        self.assertEqual(found, self.STORE.parted(other, one, **more))
        self.assertEqual(None if rows is None else Database(PAIR, rows), found)
        if rows is not None:
            self.assertIs(True, Store.tells_apart(Database(PAIR, rows), one, other, **more))

    def test_words(self):
        self.parted(B, B, None)
        self.parted(B, Distinct(B), {"b": [(None,), (None,)]})
        self.parted(A, Distinct(A), None)
        self.parted(B, Filter(B, ("=", column(3), column(3))), {"b": [(None,)]})
        self.parted(Keep(A, (1,)), Keep(A, (2,)), {"a": [(1, None)]})
        self.parted(Keep(B, ()), Keep(A, ()), {"b": [(None,)]})
        self.parted(Join("left", A, B, equal(1, 3)), Join("full", A, B, equal(1, 3)), {"b": [(None,)]})
        self.parted(Join("left", A, B, equal(1, 3)), Join("inner", A, B, equal(1, 3)), {"a": [(1, None)]})
        self.parted(Join("semi", A, B, equal(1, 3)), Keep(Join("inner", A, B, equal(1, 3)), (1, 2)), {"a": [(1, None)], "b": [(1,), (1,)]})
        self.parted(Scan("b", (3,)), Scan("b", (9,)), None)

    def test_orders(self):
        self.parted(First(B, (), None), First(B, [(3, True)], None), {"b": [(None,), (1,)]})
        self.parted(First(B, (), None, (3,)), First(B, [(3, True)], None, (3,)), None)

    def test_several(self):
        single = Join("single", A, B, ALWAYS)
        self.parted(single, Join("left", A, B, ALWAYS), {"a": [(1, None)], "b": [(None,), (None,)]})
        self.parted(single, single, None)
        # Several on both sides, whatever the rest may be.
        other = Keep(Compute(Join("single", A, B, ALWAYS), [(9, value(1))]), (1, 2, 9))
        self.parted(Keep(single, ()), Keep(other, ()), None)
        self.assertIs(False, Store.tells_apart(Database(PAIR, {"a": [(1, None)], "b": [(1,), (2,)]}), single, other))
        self.assertIs(True, Store.tells_apart(Database(PAIR, {"a": [(1, None)], "b": [(1,), (2,)]}), single, A))
        self.assertIs(True, Store.tells_apart(Database(PAIR, {"a": [(1, None)], "b": [(1,), (2,)]}), A, single))
        self.assertIs(False, Store.tells_apart(Database(PAIR), single, Join("left", A, B, ALWAYS)))

    def test_true_beside_one(self):
        truth = Keep(Compute(B, [(8, ("=", column(3), value(1)))]), (8,))
        number = Keep(Compute(B, [(8, ("case", ((("=", column(3), value(1)), value(1)), (("null", column(3)), value(None))), value(0)))]), (8,))
        self.parted(truth, number, None)
        self.assertIs(False, Store.tells_apart(Database(PAIR, {"b": [(1,), (2,), (None,)]}), truth, number))

    def test_the_first_of_walk(self):
        many = 0
        store = Store(Schema(Table("t", [Column("x", "whole"), Column("y", "whole", required=True), Column("s", "text")], unique=[("x",), ("y", "s")]),
                             Table("u", [Column("x", "whole", required=True), Column("z", "text")], unique=[("x",)]), Table("v", [Column("w", "whole")])),
                      [None, 1, "a"], 2)
        bases = list(store.walk())
        plans = [ShapeDrawer(seed, list(range(1, 20))).shaped(SHAPES[seed % len(SHAPES)], {})[0] for seed in range(160)]
        plans = [plan for plan in plans if not plan.free]
        for one, other in zip(plans, plans[1:]):
            told = [base for base in bases if outcome(lambda: run(base, one)) != outcome(lambda: run(base, other))]
            self.assertEqual(told[0] if told else None, store.parted(one, other))
            for base in bases[::7]:
                self.assertEqual(base in told, Store.tells_apart(base, one, other))
            many += len(told) > 0
            for plan in (one,):
                self.assertIsNone(store.parted(plan, home(store.schema, plan)[0]))
                for name, path in list(all_places(store.schema, plan))[:3]:
                    self.assertIsNone(store.parted(plan, Rule(name).laid(store.schema, plan, path)))
        self.assertGreater(many, 50)

    def test_a_wrong_rule(self):
        # What a rule would do without its "if" is told apart.
        store = Store(PAIR, [None, 1, "a"], 3)
        self.assertEqual(Database(PAIR, {"a": [(1, None)], "b": [(1,), (1,)]}), store.parted(
            Keep(Join("inner", A, B, equal(1, 3)), (1,)), Keep(Join("semi", A, B, equal(1, 3)), (1,))))
        self.assertEqual(Database(PAIR, {"b": [(None,)]}), store.parted(Filter(B, ("null", column(3))), Rows((3,), ())))

    def test_parameters(self):
        one, other = Filter(B, ("=", column(3), ("param", "p"))), Filter(B, ("is", column(3), ("param", "p")))
        self.parted(one, other, None, params={"p": 1})
        self.parted(one, other, {"b": [(None,)]}, params={"p": None})
        for base in (Database(PAIR), Database(PAIR, {"b": [(1,)]})):
            self.assertIs(False, Store.tells_apart(base, one, other, params={"p": 2}))

    def errors(self, one, other, error, field, told, **more):
        for call in (lambda: self.STORE.parted(one, other, **more), lambda: Store.tells_apart(Database(PAIR), one, other, **more)):
            with self.assertRaises(error) as caught:
                call()
            self.assertEqual(told, getattr(caught.exception, field))

    def test_errors(self):
        free, table, wide = Filter(B, equal(3, 50)), Scan("q", (1,)), Scan("b", (1, 2))
        param = Filter(B, ("=", column(3), ("param", "p")))
        several = Join("single", Rows((8,), [(1,)]), Rows((9,), [(1,), (2,)]), ALWAYS)
        self.errors(free, B, FreeColumns, "value", (50,))
        self.errors(B, free, FreeColumns, "value", (50,))
        self.errors(table, B, UnknownTable, "word", "q")
        self.errors(B, table, UnknownTable, "word", "q")
        self.errors(wide, B, BadColumns, "word", "b")
        self.errors(B, wide, BadColumns, "word", "b")
        self.errors(param, B, BadParameter, "word", "p")
        self.errors(B, param, BadParameter, "word", "p")
        # Each is run with all of params.
        self.errors(B, param, BadParameter, "word", "p", params={"p": 1})
        self.errors(param, B, BadParameter, "word", "p", params={"p": 1})
        self.errors(param, param, BadParameter, "word", "a", params={"p": 1, "z": 1, "a": 1})
        self.errors(param, param, BadParameter, "word", "p", params={"p": True})
        # Those of one come first, Several is none of them.
        self.errors(wide, free, BadColumns, "word", "b")
        self.errors(param, free, BadParameter, "word", "p")
        self.errors(several, free, FreeColumns, "value", (50,))
        self.errors(free, table, FreeColumns, "value", (50,))


if __name__ == "__main__":
    unittest.main()
