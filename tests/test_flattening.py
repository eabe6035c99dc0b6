"""Flat plans [46], of plans that come from no question, too."""

import random
import unittest

from innerasks.databases import Database
from innerasks.flattening import flat, is_flat
from innerasks.lotplans import First, Group, Number
from innerasks.pairplans import Depend, Except, Intersect, Join, Union
from innerasks.plans import Compute, Distinct, Filter, Keep, Rows, Scan
from innerasks.running import run
from asking import BASE, EMPTY, outcome
from drawn_plans import PlanDrawer, around
from drawn_questions import drawn_database, drawn_value
from plan_kinds import plan_kinds
from samples import ASKED

ALWAYS, NEVER = ("and", ()), ("or", ())
T = Scan("t", (1, 2, 3))
U = Scan("u", (4, 5))
V = Scan("v", (6,))
KINDS = ("inner", "left", "semi", "anti", "single")


def column(number):
    return ("column", number)


def equal(one, other):
    return ("=", column(one), column(other))


def depend(kind, left, right, condition=ALWAYS, mark=99):
    return Depend(kind, left, right, condition, mark if kind == "mark" else None)


# Right parts that use the columns 1 and 3 of T, by nodes of every class; none of them has a column of T.
CORRELATED = Filter(U, ("and", (equal(4, 1), ("<", column(5), column(3)))))
RIGHTS = [
    CORRELATED, Filter(U, ("or", (equal(4, 1), equal(5, 3)))), Compute(U, [(7, ("+", column(4), column(1))), (8, equal(5, 3))]),
    Keep(CORRELATED, (5,)), Keep(CORRELATED, ()), Distinct(Keep(CORRELATED, (4,))), Number(CORRELATED, 7), Number(CORRELATED, 7, (5,)),
    Group(CORRELATED, (5,), [(7, ("count", None, False)), (8, ("sum", ("+", column(4), column(1))))]), Group(CORRELATED, (), ()),
    Group(CORRELATED, (), [(7, ("count", None, False)), (8, ("count", column(4), True)), (9, ("sum", column(4))), (10, ("most", column(3)))]),
    First(CORRELATED, [(5, True)], 1), First(CORRELATED, [(4, False)], 2, (5,)), First(CORRELATED, (), 0), First(CORRELATED, (), None),
    Union(CORRELATED, Scan("u", (7, 8)), (9, 10)), Union(CORRELATED, CORRELATED, (4, 5)), Union(U, Filter(U, equal(4, 1)), (5, 4)),
    Except(U, CORRELATED, (7, 8)), Except(CORRELATED, U, (4, 5)), Intersect(U, CORRELATED, (7, 8)), Intersect(CORRELATED, CORRELATED, (7, 8)),
    *[Join(kind, CORRELATED, V, equal(4, 6)) for kind in ("inner", "left", "full", "semi", "anti", "single")],
    *[Join(kind, V, CORRELATED, equal(4, 6)) for kind in ("inner", "left", "full", "semi", "anti", "single")],
    *[Join(kind, CORRELATED, Filter(V, equal(6, 1)), ALWAYS) for kind in ("inner", "left", "full", "semi", "anti", "single")],
    *[Join(kind, U, V, ("and", (equal(4, 6), equal(4, 1)))) for kind in ("inner", "left", "full", "semi", "anti", "single")],
    Join("mark", CORRELATED, V, equal(4, 6), 7), Join("mark", V, CORRELATED, equal(6, 4), 7), Join("mark", V, U, equal(6, 1), 7),
    Join("mark", V, Filter(U, equal(4, 1)), ("=", column(3), column(5)), 5),
    Rows((7, 8), [(1, "a"), (1, "a"), (None, None)]), Rows((), [()]), Rows((7,), ()), U, Filter(Rows((), [(), ()]), equal(1, 1)),
    *[Depend(kind, CORRELATED, Filter(V, ("and", (equal(6, 4), equal(6, 1)))), ALWAYS) for kind in KINDS],
    *[Depend(kind, V, Filter(U, ("and", (equal(4, 6), equal(5, 3)))), ALWAYS) for kind in KINDS],
    Depend("mark", U, Filter(V, equal(6, 1)), equal(4, 6), 7), Depend("mark", CORRELATED, Group(Filter(V, equal(6, 4)), (), [
        (8, ("count", column(1), False))]), equal(8, 4), 7),
    Group(Depend("single", U, Group(Filter(V, ("<=", column(6), column(1))), (), [(8, ("count", None, False))]), ALWAYS), (), [
        (9, ("sum", column(8)))]),
    Union(Keep(Depend("inner", U, Filter(V, equal(6, 4)), equal(6, 1)), (6,)), Keep(CORRELATED, (4,)), (7,)),
    Keep(Filter(Scan("t", (1, 2, 3)), ("null", column(2))), ()),
]


class Compared(unittest.TestCase):
    def bases(self, sizes=(1, 2, 3, 3, 4, 5)):
        maker = random.Random(3)
        return [BASE, EMPTY] + [drawn_database(maker, most) for most in sizes]

    def compare(self, plan, bases):
        told = flat(plan)
        self.check_flat(plan, told, {})
        outcomes = []
        for base in bases:
            expected = outcome(lambda: run(base, plan))
            self.assertEqual(expected, outcome(lambda: run(base, told)), base.rows)
            outcomes.append(expected)
        return outcomes


    def check_flat(self, plan, told, known):
        self.assertTrue(is_flat(told))
        self.assertEqual(plan.columns, told.columns)
        self.assertLessEqual(set(told.free), set(plan.free))
        self.assertEqual(plan_kinds(plan, known), plan_kinds(told, known))


class Written(Compared):
    def test_is_flat(self):
        for plan in (T, Filter(T, ALWAYS), Join("semi", T, U, ALWAYS), Union(T, T, (1, 2, 3)), Filter(T, equal(1, 9))):
            self.assertIs(True, is_flat(plan))
            self.assertEqual(plan, flat(plan))
        plan = Depend("semi", T, U, ALWAYS)
        for told in (plan, Filter(plan, ALWAYS), Union(T, plan, (1, 2, 3)), Join("semi", V, Keep(plan, ()), ALWAYS)):
            self.assertIs(False, is_flat(told))
            self.assertIs(True, is_flat(flat(told)))

    def test_each_kind_over_each_node(self):
        found = []
        for right in RIGHTS:
            for kind in KINDS + ("mark",):
                conditions = [ALWAYS, ("<", column(2), column(right.columns[0]))] if right.columns else [ALWAYS]
                for condition in conditions:
                    with self.subTest(kind=kind, right=right):
                        found += self.compare(depend(kind, T, right, condition), self.bases((3, 5, 7, 7)))
        self.assertGreater(found.count("several"), 60)

    def test_left_parts(self):
        lefts = [
            Filter(T, ("null", column(2))), Keep(T, (3, 1)), Distinct(Keep(T, (1, 3))), Group(T, (1, 3), [(2, ("count", None, False))]),
            First(T, [(2, True)], 2), Number(T, 20), Join("inner", T, Scan("v", (21,)), equal(1, 21)), Compute(T, [(20, equal(1, 2))]),
            Join("full", T, Scan("u", (20, 21)), equal(1, 20)), Union(T, T, (3, 2, 1)), Rows((1, 3), [(1, "a"), (None, "b")]),
            Depend("mark", T, Filter(Scan("v", (21,)), equal(21, 1)), ALWAYS, 20),
            Depend("single", T, Group(Filter(Scan("v", (21,)), equal(21, 1)), (), [(20, ("sum", column(21)))]), equal(2, 20)),
        ]
        for left in lefts:
            for right in RIGHTS[::3]:
                for kind in KINDS + ("mark",):
                    with self.subTest(left=left, right=right, kind=kind):
                        self.compare(depend(kind, left, right), self.bases((2, 4)))

    def test_values_of_left_that_only_a_join_makes(self):
        # Nulls that an outer join adds are values that the right part is run for.
        count = Group(Filter(U, ("or", (equal(4, 1), ("null", column(1))))), (), [(30, ("count", None, False))])
        some = Filter(U, ("or", (equal(4, 1), ("null", column(1)))))
        for left in (Join("full", T, Scan("v", (20,)), equal(1, 20)), Join("left", Scan("v", (20,)), T, equal(1, 20)),
                     Join("full", Keep(T, (1,)), Scan("v", (20,)), NEVER), Join("single", Scan("v", (20,)), Keep(T, (1,)), NEVER)):
            for right in (count, some, Distinct(Keep(some, (5,))), First(some, (), 1), Union(some, U, (31, 32))):
                for kind in KINDS + ("mark",):
                    self.compare(depend(kind, left, right), self.bases())

    def test_above(self):
        plan = depend("left", T, CORRELATED)
        for told in [First(plan, [(2, True), (5, False)], 3), First(plan, [(4, True)], 1, (1,)), Number(plan, 20, (3,)), Number(plan, 20),
                     Keep(Number(plan, 20), (20, 5)), Group(plan, (4,), [(1, ("sum", column(2)))]), Distinct(Keep(plan, (5, 1))),
                     Except(plan, depend("inner", T, CORRELATED), (9, 8, 7, 6, 5)), depend("anti", plan, Filter(V, equal(6, 4))),
                     depend("mark", plan, depend("semi", V, Filter(Scan("u", (7, 8)), ("and", (equal(7, 6), equal(8, 5))))))]:
            with self.subTest(told):
                self.compare(told, self.bases())

    def test_an_empty_left_part(self):
        bad = Join("single", Rows((6,), [(1,)]), Rows((7,), [(1,), (2,)]), ALWAYS)
        some = Join("single", Rows((6,), [(1,)]), Filter(Rows((7,), [(1,), (2,)]), equal(1, 1)), ALWAYS)
        for right in (bad, some, Depend("single", Rows((6,), [(1,)]), U, ALWAYS), Union(Keep(bad, (6,)), V, (7,)), Group(bad, (), ()),
                      Join("left", V.renamed({6: 8}), bad, NEVER), Filter(bad, equal(6, 1)), Join("semi", U, bad, NEVER),
                      *[Join("single", Rows((7,), [(1,)]), below, ALWAYS) for below in (
                          V, First(V, (), 2), First(V, (), 1), First(V, (), 1, (6,)), First(V, (), 0), First(V, (), None), Group(V, (6,), ()),
                          Group(V, (), ()), Rows((8,), [(1,), (2,)]), Rows((8,), [(1,)]), Distinct(Keep(Filter(V, ALWAYS), (6,))),
                          Join("inner", V, V.renamed({6: 8}), ALWAYS), Union(V, V, (8,)))]):
            for kind in KINDS + ("mark",):
                for left in (Rows((1,), ()), Rows((1,), [(1,)]), Rows((1,), [(None,)]), Filter(Rows((1,), [(1,), (2,)]), equal(1, 1)),
                             Filter(Rows((1,), [(1,), (2,)]), NEVER), Keep(T, (1,)), Group(Rows((20,), ()), (), [(1, ("sum", column(20)))]),
                             First(Rows((1,), [(1,)]), (), 0), Join("semi", Rows((1,), [(1,)]), Rows((20,), ()), ALWAYS),
                             Join("inner", Rows((1,), [(1,)]), Rows((20,), ()), ALWAYS), Join("left", Rows((20,), [(1,)]), Rows((1,), ()), ALWAYS),
                             Except(Rows((1,), [(1,)]), Rows((1,), [(1,)]), (1,)), Union(Rows((1,), ()), Rows((1,), [(1,)]), (1,))):
                    self.compare(depend(kind, left, right), [BASE, EMPTY])
        self.assertEqual([], run(BASE, flat(depend("inner", Rows((1,), ()), bad))))
        self.assertEqual("several", outcome(lambda: run(BASE, flat(depend("inner", Rows((1,), [(1,)]), bad)))))

    def test_several_for_rows_of_left_alone(self):
        right = Depend("single", Rows((8,), [(0,)]), CORRELATED, ALWAYS)
        base = Database(ASKED, {"t": [(1, 1, "z"), (2, 2, "z")], "u": [(1, "a"), (2, "a"), (2, "b")]})
        for kind in KINDS + ("mark",):
            for left in (T, Filter(T, equal(1, 2)), Filter(T, ("=", column(1), ("value", 1))), Filter(T, (">", column(1), ("value", 1))),
                         Join("anti", T, Rows((20,), [(2,)]), equal(1, 20))):
                outcomes = self.compare(depend(kind, left, right), [base])
                keeps_two = outcome(lambda: run(base, Filter(left, ("=", column(1), ("value", 2)))))
                self.assertEqual(len(keeps_two) > 0, outcomes == ["several"])

    def test_truths_that_are_known(self):
        left = Compute(T, [(20, equal(1, 2)), (21, ("null", column(3)))])
        for right in [
            Filter(U, ("truth", 20)), Filter(U, ("and", (("not", ("truth", 20)), equal(4, 1)))), Compute(U, [(22, ("or", (("truth", 20), equal(4, 1))))]),
            Group(Filter(U, ("or", (("truth", 20), ("truth", 21)))), (), [(22, ("count", None, False))]),
            Join("full", Filter(U, ("truth", 20)), Filter(V, ("not", ("truth", 20))), equal(4, 6)),
            Join("full", Filter(U, ("not", ("truth", 20))), Compute(V, [(23, ("truth", 21))]), ("or", (equal(4, 6), ("truth", 20)))),
            Union(Compute(Keep(V, ()), [(22, ("truth", 20))]), Compute(Keep(V, ()), [(22, ("truth", 21))]), (23,)),
            depend("mark", U, Filter(V, ("or", (("truth", 20), equal(6, 4))))), Distinct(Keep(Compute(U, [(22, ("truth", 20))]), (22,))),
        ]:
            for kind in KINDS + ("mark",):
                with self.subTest(kind=kind, right=right):
                    self.compare(depend(kind, left, right, mark=98), self.bases((2, 3, 4)))

    def test_free_columns(self):
        plans = [
            depend("inner", T, Filter(U, ("and", (equal(4, 1), equal(5, 50))))), depend("left", Filter(T, equal(3, 50)), CORRELATED),
            Group(depend("mark", T, Filter(U, ("or", (equal(4, 1), equal(5, 50)))), equal(3, 50)), (), [(7, ("count", column(50), False))]),
            # The number 50 stands for a column of the surroundings, and for hidden ones.
            depend("inner", Filter(T, equal(3, 50)), Filter(Keep(Scan("u", (50, 5)), (5,)), ("<=", column(5), column(3)))),
            depend("left", Keep(Filter(Scan("t", (1, 2, 50)), equal(1, 2)), (1,)), Filter(U, ("and", (equal(4, 1), equal(5, 50))))),
            depend("single", T, Group(Filter(U, ("and", (equal(4, 1), ("<>", column(5), column(50))))), (), [(1000, ("sum", column(4)))])),
        ]
        for plan in plans:
            told = flat(plan)
            self.assertLessEqual(set(told.free), {50})
            for text in ("a", "b", None, ""):
                for base in self.bases():
                    self.assertEqual(outcome(lambda: run(base, around({50: "text"}, plan, [(text,)]))),
                                     outcome(lambda: run(base, around({50: "text"}, told, [(text,)]))))

    def test_numbers_near_the_end(self):
        numbers = {1: 9999, 2: 9998, 3: 9997, 4: 9996, 5: 9995, 6: 9994, 7: 9993, 8: 9992, 99: 9991}
        for right in RIGHTS[::4]:
            for kind in ("left", "mark", "single"):
                self.compare(depend(kind, T, right).renamed(numbers), self.bases((3,)))

    def test_hidden_columns_with_the_same_numbers(self):
        hides = Keep(Filter(Scan("t", (4, 5, 1)), equal(4, 5)), (4,))
        plan = Keep(T, (1, 3))
        for right in (hides.renamed({1: 3}), Filter(Keep(Scan("t", (1, 2, 8)), (8,)), equal(8, 3)),
                      Union(Keep(T, (2,)), Filter(Keep(U, (4,)), equal(4, 1)), (2,)),
                      Filter(Group(Scan("u", (1, 3)), (), [(2, ("sum", column(1)))]), ("<", column(2), column(1))),
                      depend("left", Keep(Filter(Scan("u", (5, 6)), equal(5, 1)), (6,)), Filter(Keep(Scan("u", (1, 5)), (5,)), equal(5, 3)))):
            for kind in KINDS + ("mark",):
                self.compare(depend(kind, plan, right), self.bases())

    def test_a_number_of_one_part_that_the_other_has_from_outside(self):
        for node in (Union, Except, Intersect):
            for one, other in ((Scan("v", (1,)), Keep(Filter(U, equal(4, 1)), (4,))), (Keep(Filter(U, equal(4, 1)), (4,)), Scan("v", (1,)))):
                for kind in KINDS + ("mark",):
                    self.compare(depend(kind, Keep(T, (1, 3)), node(one, other, (9,))), self.bases())

    def test_the_plan_is_not_changed(self):
        plan = depend("left", T, CORRELATED)
        before = plan.renamed({})
        flat(plan)
        self.assertEqual(before, plan)
        self.assertEqual(flat(plan), flat(plan))


class Drawn(Compared):
    def drawn(self, seed, depth):
        drawer = PlanDrawer(seed)
        numbers = drawer.random.sample([1, 2, 3, 5, 9999, 9998, 40], drawer.random.randint(0, 3))
        known = {number: drawer.pick("whole", "text", "truth") for number in numbers}
        return known, drawer.plan(depth, known)[0]

    def test_many_plans(self):
        found = []
        dependent = 0
        for seed in range(1500):
            known, plan = self.drawn(seed, 3 + seed % 2)
            if is_flat(plan):
                continue
            dependent += 1
            told = flat(plan)
            self.check_flat(plan, told, {column: "truth" if kind == "truth" else "value" for column, kind in known.items()})
            maker = random.Random(seed)
            for _ in range(3):
                base = drawn_database(maker)
                rows = [tuple(drawn_value(maker, "text" if kind == "text" else "whole") for kind in known.values())
                        for _ in range(maker.randint(0, 3))]
                expected = outcome(lambda: run(base, around(known, plan, rows)))
                self.assertEqual(expected, outcome(lambda: run(base, around(known, told, rows))), seed)
                found.append(expected)
        self.assertGreater(dependent, 700)
        self.assertGreater(found.count("several"), 50)


if __name__ == "__main__":
    unittest.main()
