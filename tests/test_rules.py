"""Rules [52, 53]: what each becomes, word for word, and where it does not fit."""

import unittest

from innerasks.errors import NoRule, UnknownRule
from innerasks.lotplans import First, Group, Number
from innerasks.pairplans import Depend, Except, Intersect, Join, Union
from innerasks.plans import Compute, Distinct, Filter, Keep, Rows, Scan
from innerasks.rules import Rule, all_places
from samples import ANYTHING
from test_facts import KEYED, column, equal, solid, value

ALWAYS, NEVER = ("and", ()), ("or", ())
# x is a key of T and of U and required in U, y required in T; W has no key.
T = Scan("t", (1, 2, 3))
U = Scan("u", (4, 5))
V = Scan("v", (6,))
W = Scan("v", (7,))
NAMES = (
    "split", "merge", "idle", "vain", "past compute", "past keep", "past distinct", "past group", "past both", "into join",
    "out of join", "to left", "to right", "left inner", "full left", "full right", "turn", "deep right", "deep left", "once",
    "semi inner", "inner semi", "distinct semi", "join gone", "single left", "null anti", "mark semi", "mark anti", "free",
    "one keep", "no keep", "less", "no number", "one compute", "no order", "lots",
)
A, B, C = ("<", column(1), value(3)), ("null", column(2)), ("=", column(3), value("a"))
# A single join that may meet two rows, and one that may not.
LOUD = Join("single", V, W, ALWAYS)
COUNT = (9, ("count", None, False))


def all_of(*parts):
    return ("and", parts)


def join(kind, left=T, right=U, condition=equal(1, 4), mark=9):
    return Join(kind, left, right, condition, mark if kind == "mark" else None)


def depend(kind, left=T, right=U, condition=equal(1, 4), mark=9):
    return Depend(kind, left, right, condition, mark if kind == "mark" else None)


class Laid(unittest.TestCase):
    def fits(self, name, plan, made, path=()):
        rule = Rule(name)
        self.assertIs(True, rule.fits(KEYED, plan, path), name)
        self.assertEqual(made, rule.laid(KEYED, plan, path).at(path))
        self.assertIn(path, list(rule.places(KEYED, plan)))
        self.assertIn((name, path), list(all_places(KEYED, plan)))
        # Deeper in a plan, too.
        above = Union(Keep(plan, ()), Keep(Distinct(plan), ()), ())
        for below in ((0, 0), (1, 0, 0)):
            told = rule.laid(KEYED, above, below + path)
            self.assertEqual(above.put(below + path, made), told)

    def misses(self, name, *plans):
        for plan in plans:
            with self.subTest(name=name, plan=plan):
                rule = Rule(name)
                self.assertIs(False, rule.fits(KEYED, plan, ()))
                with self.assertRaises(NoRule) as caught:
                    rule.laid(KEYED, plan, ())
                self.assertEqual((name, ()), (caught.exception.value, caught.exception.path))
                self.assertNotIn((), list(rule.places(KEYED, plan)))


class AtFilters(Laid):
    def test_split(self):
        self.fits("split", Filter(T, all_of(A, B)), Filter(Filter(T, B), A))
        self.fits("split", Filter(T, all_of(A, B, C)), Filter(Filter(T, all_of(B, C)), A))
        self.fits("split", Filter(T, all_of(all_of(A, B), C)), Filter(Filter(T, C), all_of(A, B)))
        # The others come together by &, so an `and` among them is told by its parts.
        self.fits("split", Filter(T, all_of(A, all_of(B, C))), Filter(Filter(T, all_of(B, C)), A))
        self.fits("split", Filter(T, all_of(A, B, all_of(B, C))), Filter(Filter(T, all_of(B, B, C)), A))
        self.fits("split", Filter(T, all_of(A, ALWAYS)), Filter(Filter(T, ALWAYS), A))
        self.misses("split", Filter(T, all_of(A)), Filter(T, ALWAYS), Filter(T, A), Filter(T, ("or", (A, B))), Keep(Filter(T, all_of(A, B)), ()))

    def test_merge(self):
        self.fits("merge", Filter(Filter(T, A), B), Filter(T, all_of(A, B)))
        self.fits("merge", Filter(Filter(T, all_of(A, B)), C), Filter(T, all_of(A, B, C)))
        self.fits("merge", Filter(Filter(T, A), all_of(B, all_of(C, A))), Filter(T, all_of(A, B, all_of(C, A))))
        self.fits("merge", Filter(Filter(T, ALWAYS), C), Filter(T, C))
        self.fits("merge", Filter(Filter(T, ALWAYS), ALWAYS), Filter(T, ALWAYS))
        self.fits("merge", Filter(Filter(T, all_of(A)), ALWAYS), Filter(T, A))
        self.misses("merge", Filter(T, A), Filter(Distinct(Filter(T, A)), B), Filter(Keep(T, (1,)), A))

    def test_idle(self):
        self.fits("idle", Filter(T, ALWAYS), T)
        self.misses("idle", Filter(T, all_of(ALWAYS)), Filter(T, NEVER), Filter(T, A), Filter(T, ("not", NEVER)))
        self.misses("idle", Filter(First(T, (), None), ALWAYS))
        self.fits("idle", Filter(First(T, (), 1, (1,)), ALWAYS), First(T, (), 1, (1,)))

    def test_vain(self):
        gone = Rows((1, 2, 3), ())
        self.fits("vain", Filter(T, NEVER), gone)
        self.fits("vain", Filter(T, ("null", column(2))), gone)
        self.fits("vain", Filter(T, ("=", column(1), value(None))), gone)
        self.fits("vain", Filter(Filter(T, solid(1)), all_of(A, ("null", column(1)))), gone)
        self.fits("vain", Filter(Keep(T, (3, 2)), ("null", column(2))), Rows((3, 2), ()))
        # Whatever a truth, a parameter, a column of the surroundings may be.
        self.misses("vain", Filter(T, ("null", column(1))), Filter(T, ("=", column(50), value(1))), Filter(T, ("null", column(50))),
                    Filter(T, ("null", ("param", "p"))), Filter(T, ALWAYS), Filter(T, ("<", value(2), value(1))))
        self.misses("vain", Filter(LOUD, NEVER), Filter(Compute(T, [(8, ("null", column(1)))]), ("truth", 8)))
        self.fits("vain", Filter(Join("single", T, U, equal(1, 4)), NEVER), Rows((1, 2, 3, 4, 5), ()))
        self.fits("vain", Filter(Depend("inner", T, U, ALWAYS), ("null", column(4))), Rows((1, 2, 3, 4, 5), ()))
        self.misses("vain", Filter(join("left"), ("null", column(4))))

    def test_past_compute(self):
        made = [(8, ("+", column(1), column(2))), (9, B)]
        self.fits("past compute", Filter(Compute(T, made), A), Compute(Filter(T, A), made))
        self.fits("past compute", Filter(Compute(T, ()), equal(1, 50)), Compute(Filter(T, equal(1, 50)), ()))
        self.misses("past compute", Filter(Compute(T, made), ("=", column(8), value(1))), Filter(Compute(T, made), all_of(A, ("truth", 9))),
                    Filter(T, A), Compute(Filter(T, A), made))

    def test_past_keep(self):
        self.fits("past keep", Filter(Keep(T, (2, 1)), A), Keep(Filter(T, A), (2, 1)))
        self.fits("past keep", Filter(Keep(T, (2, 1)), equal(1, 50)), Keep(Filter(T, equal(1, 50)), (2, 1)))
        # 3 is a column of the surroundings there, and would be one of T.
        self.misses("past keep", Filter(Keep(T, (2, 1)), C), Filter(Keep(T, (2, 1)), all_of(A, equal(1, 3))),
                    Filter(Keep(Compute(T, [(8, B)]), (1,)), ("truth", 8)))

    def test_past_distinct(self):
        self.fits("past distinct", Filter(Distinct(T), all_of(A, equal(2, 50))), Distinct(Filter(T, all_of(A, equal(2, 50)))))
        self.misses("past distinct", Filter(T, A), Distinct(Filter(T, A)), Filter(Keep(Distinct(T), (1,)), A))

    def test_past_group(self):
        self.fits("past group", Filter(Group(T, (1, 2), [COUNT]), all_of(A, B)), Group(Filter(T, all_of(A, B)), (1, 2), [COUNT]))
        self.fits("past group", Filter(Group(T, (1,), ()), equal(1, 50)), Group(Filter(T, equal(1, 50)), (1,), ()))
        self.misses("past group", Filter(Group(T, (), [COUNT]), ("=", value(1), value(2))), Filter(Group(T, (1,), [COUNT]), equal(1, 9)),
                    Filter(Group(T, (1,), [COUNT]), equal(1, 3)), Filter(Group(T, (1,), [(3, COUNT[1])]), equal(1, 3)))

    def test_past_both(self):
        condition = all_of(("<", column(8), value(3)), equal(9, 50))
        for node in (Union, Except, Intersect):
            plan = Filter(node(Keep(T, (2, 1)), Scan("u", (8, 5)), (20, 9)), all_of(("<", column(20), value(3)), ("truth", 9), equal(9, 50)))
            self.fits("past both", plan, node(
                Filter(Keep(T, (2, 1)), all_of(("<", column(2), value(3)), ("truth", 1), equal(1, 50))),
                Filter(Scan("u", (8, 5)), all_of(("<", column(8), value(3)), ("truth", 5), equal(5, 50))), (20, 9)))
            for columns in ((1, 9), (4, 9), (8, 5), (8, 2)):
                told = Filter(node(Keep(T, (1, 2)), U, columns), equal(*columns))
                self.misses("past both", told)
            self.misses("past both", Filter(node(Keep(T, (1, 2)), U, (8, 9)), equal(8, 1)), Filter(node(Keep(T, (1, 2)), U, (8, 9)), equal(8, 5)))
            # A column that a part has, but does not show, is none of its columns.
            self.fits("past both", Filter(node(Keep(T, (1, 2)), U, (8, 9)), equal(8, 3)),
                      node(Filter(Keep(T, (1, 2)), equal(1, 3)), Filter(U, equal(4, 3)), (8, 9)))
        self.fits("past both", Filter(Union(V, W, (8,)), condition[1][0]),
                  Union(Filter(V, ("<", column(6), value(3))), Filter(W, ("<", column(7), value(3))), (8,)))

    def test_into_join(self):
        for node in (join, depend):
            self.fits("into join", Filter(node("inner"), all_of(A, B)), node("inner", condition=all_of(equal(1, 4), A, B)))
            self.fits("into join", Filter(node("inner", condition=ALWAYS), equal(2, 50)), node("inner", condition=equal(2, 50)))
            for kind in ("left", "semi", "anti", "mark", "single"):
                self.misses("into join", Filter(node(kind), A))
        self.misses("into join", Filter(join("full"), A), Filter(Keep(join("inner"), (1,)), A))

    def test_out_of_join(self):
        for node in (join, depend):
            self.fits("out of join", node("inner"), Filter(node("inner", condition=ALWAYS), equal(1, 4)))
            self.fits("out of join", node("inner", condition=all_of(A, B)), Filter(node("inner", condition=ALWAYS), all_of(A, B)))
            self.misses("out of join", node("inner", condition=ALWAYS))
            for kind in ("left", "semi", "anti", "mark", "single"):
                self.misses("out of join", node(kind))
        self.misses("out of join", join("full"), T)

    def test_to_left(self):
        for kind in ("inner", "left", "semi", "anti", "mark", "single"):
            for node in (join, depend):
                self.fits("to left", Filter(node(kind), all_of(A, equal(2, 50))), node(kind, Filter(T, all_of(A, equal(2, 50)))))
                self.misses("to left", Filter(node(kind), all_of(A, ("null", column(5)))), Filter(node(kind), ("null", column(4))))
        self.misses("to left", Filter(join("full"), A), Filter(join("mark"), ("truth", 9)), Filter(depend("mark"), all_of(A, ("truth", 9))))
        # The match must be single for single; it does not matter for the others.
        self.misses("to left", Filter(join("single", U, V, equal(4, 6)), solid(4)), Filter(depend("single", U, V, equal(4, 6)), solid(4)))
        self.fits("to left", Filter(join("left", U, V, equal(4, 6)), solid(4)), join("left", Filter(U, solid(4)), V, equal(4, 6)))
        # Of a Depend right must be quiet; it does not matter for a Join.
        for kind in ("inner", "left", "semi", "anti", "mark"):
            self.misses("to left", Filter(depend(kind, right=LOUD, condition=ALWAYS), A))
            self.fits("to left", Filter(join(kind, right=LOUD, condition=ALWAYS), A), join(kind, Filter(T, A), LOUD, ALWAYS))
        one = Group(LOUD, (), [(8, ("count", None, False))])
        self.misses("to left", Filter(depend("single", right=one, condition=ALWAYS), A))
        self.fits("to left", Filter(join("single", right=one, condition=ALWAYS), A), join("single", Filter(T, A), one, ALWAYS))
        inner = depend("semi", right=Filter(U, equal(4, 1)), condition=ALWAYS)
        self.fits("to left", Filter(inner, B), depend("semi", Filter(T, B), Filter(U, equal(4, 1)), ALWAYS))

    def test_to_right(self):
        condition = all_of(("null", column(5)), equal(4, 50))
        self.fits("to right", Filter(join("inner"), condition), join("inner", right=Filter(U, condition)))
        self.misses("to right", Filter(join("inner"), all_of(condition, A)), Filter(join("inner"), equal(4, 2)), Filter(depend("inner"), condition))
        for kind in ("left", "full", "semi", "anti", "mark", "single"):
            self.misses("to right", Filter(join(kind), ("=", column(50), value(1))))

    def test_left_inner(self):
        for node in (join, depend):
            for condition in (("=", column(4), value(1)), solid(5), all_of(B, ("<", column(2), column(4))), NEVER,
                              ("=", ("coalesce", (column(4), column(5))), value("a")), ("or", (solid(4), solid(5)))):
                self.fits("left inner", Filter(node("left"), condition), Filter(node("inner"), condition))
            # What is never null in L has no part in it.
            self.misses("left inner", Filter(node("left"), A), Filter(node("left"), ("null", column(5))), Filter(node("left"), ALWAYS),
                        Filter(node("left"), ("is", column(4), column(1))), Filter(node("left"), ("=", column(50), value(1))),
                        Filter(node("left"), ("is", column(4), column(2))))
        self.misses("left inner", Filter(join("full"), solid(4)), Filter(join("single"), solid(4)), Filter(join("inner"), solid(4)), join("left"))
        told = join("left", right=Compute(U, [(8, ("null", column(4)))]))
        self.misses("left inner", Filter(told, ("truth", 8)))

    def test_full_left(self):
        for condition in (A, solid(3), all_of(solid(1), solid(4)), ("<", column(1), column(4))):
            self.fits("full left", Filter(join("full"), condition), Filter(join("left"), condition))
        self.misses("full left", Filter(join("full"), solid(4)), Filter(join("full"), B), Filter(join("left"), A), Filter(join("full"), ALWAYS))

    def test_full_right(self):
        for condition in (("<", column(4), value(3)), solid(5), all_of(solid(1), solid(4)), ("<", column(1), column(4))):
            self.fits("full right", Filter(join("full"), condition), Filter(Keep(join("left", U, T), (1, 2, 3, 4, 5)), condition))
        self.misses("full right", Filter(join("full"), solid(1)), Filter(join("full"), ("null", column(4))), Filter(join("left"), solid(4)))


class AtJoins(Laid):
    def test_turn(self):
        self.fits("turn", join("inner"), Keep(join("inner", U, T), (1, 2, 3, 4, 5)))
        self.misses("turn", depend("inner"), *[join(kind) for kind in ("left", "full", "semi", "anti", "mark", "single")])

    def test_deep_right(self):
        inner = join("inner")
        self.fits("deep right", join("inner", inner, V, all_of(equal(5, 6), equal(1, 6), equal(6, 50))),
                  join("inner", T, join("inner", U, V, all_of(equal(5, 6), equal(6, 50))), all_of(equal(1, 4), equal(1, 6))))
        self.fits("deep right", join("inner", inner, V, equal(2, 6)), join("inner", T, join("inner", U, V, ALWAYS), all_of(equal(1, 4), equal(2, 6))))
        self.fits("deep right", join("inner", inner, V, ALWAYS), join("inner", T, join("inner", U, V, ALWAYS), equal(1, 4)))
        self.fits("deep right", join("inner", inner, V, equal(5, 6)), join("inner", T, join("inner", U, V, equal(5, 6)), equal(1, 4)))
        self.fits("deep right", join("inner", inner, V, all_of(all_of(equal(5, 6), equal(4, 6)), all_of(A, B), C)),
                  join("inner", T, join("inner", U, V, all_of(equal(5, 6), equal(4, 6))), all_of(equal(1, 4), A, B, C)))
        self.misses("deep right", depend("inner", inner, V, ALWAYS), join("inner", depend("inner"), V, ALWAYS), join("inner", join("left"), V, ALWAYS),
                    join("left", inner, V, ALWAYS), join("inner", V, inner, ALWAYS), join("semi", inner, V, ALWAYS))

    def test_deep_left(self):
        inner = join("inner", U, V, equal(4, 6))
        self.fits("deep left", join("inner", T, inner, all_of(equal(1, 4), equal(1, 6), equal(1, 50))),
                  join("inner", join("inner", T, U, all_of(equal(1, 4), equal(1, 50))), V, all_of(equal(4, 6), equal(1, 6))))
        self.fits("deep left", join("inner", T, inner, equal(1, 6)), join("inner", join("inner", T, U, ALWAYS), V, all_of(equal(4, 6), equal(1, 6))))
        self.fits("deep left", join("inner", T, inner, ALWAYS), join("inner", join("inner", T, U, ALWAYS), V, equal(4, 6)))
        self.misses("deep left", depend("inner", T, inner, ALWAYS), join("inner", T, depend("inner", U, V, ALWAYS), ALWAYS),
                    join("inner", inner, T, ALWAYS), join("inner", T, join("left", U, V, ALWAYS), ALWAYS), join("anti", T, inner, ALWAYS))

    def test_semi_inner(self):
        self.fits("semi inner", join("semi"), Keep(join("inner"), (1, 2, 3)))
        self.fits("semi inner", join("semi", U, First(V, (), 1), ALWAYS), Keep(join("inner", U, First(V, (), 1), ALWAYS), (4, 5)))
        self.misses("semi inner", depend("semi"), join("semi", condition=equal(2, 5)), join("semi", U, V, equal(4, 6)), join("anti"), join("inner"))

    def test_inner_semi(self):
        self.fits("inner semi", Keep(join("inner"), (3, 1)), Keep(join("semi"), (3, 1)))
        self.fits("inner semi", Keep(join("inner"), ()), Keep(join("semi"), ()))
        self.misses("inner semi", Keep(join("inner"), (1, 4)), Keep(join("inner", condition=equal(2, 5)), (1,)), Keep(depend("inner"), (1,)),
                    Keep(join("left"), (1,)), join("inner"))

    def test_distinct_semi(self):
        for condition in (equal(1, 4), equal(2, 5), ALWAYS):
            self.fits("distinct semi", Distinct(Keep(join("inner", condition=condition), (3, 1))), Distinct(Keep(join("semi", condition=condition), (3, 1))))
        self.misses("distinct semi", Distinct(Keep(join("inner"), (1, 4))), Distinct(Keep(depend("inner"), (1,))), Keep(join("inner"), (1,)),
                    Distinct(join("inner")), Distinct(Keep(join("left"), (1,))))

    def test_join_gone(self):
        for kind in ("left", "single"):
            self.fits("join gone", Keep(join(kind), (3, 1)), Keep(T, (3, 1)))
            self.misses("join gone", Keep(join(kind), (1, 4)), Keep(depend(kind), (1,)), Keep(join(kind, condition=equal(2, 5)), (1,)), join(kind))
            one = Group(LOUD, (), [(8, ("count", None, False))])
            self.misses("join gone", Keep(join(kind, right=one, condition=ALWAYS), (1,)))
        self.misses("join gone", Keep(join("inner"), (1,)), Keep(join("full"), (1,)), Keep(join("mark"), (1,)))
        self.misses("join gone", Keep(join("single", condition=ALWAYS), (1,)))

    def test_single_left(self):
        self.fits("single left", join("single"), join("left"))
        self.misses("single left", depend("single"), join("single", condition=equal(2, 5)), join("left"))

    def test_null_anti(self):
        for missing, condition in ((4, equal(1, 4)), (4, ALWAYS)):
            plan = Keep(Filter(join("left", condition=condition), ("null", column(missing))), (2, 3))
            self.fits("null anti", plan, Keep(join("anti", condition=condition), (2, 3)))
        solid_side = Filter(U, solid(5))
        self.fits("null anti", Keep(Filter(join("left", right=solid_side), ("null", column(5))), ()), Keep(join("anti", right=solid_side), ()))
        left = join("left")
        self.misses("null anti", Keep(Filter(left, ("null", column(5))), (1,)), Keep(Filter(left, ("null", column(2))), (1,)),
                    Keep(Filter(left, ("null", column(50))), (1,)), Keep(Filter(left, ("null", column(4))), (1, 4)),
                    Keep(Filter(left, solid(4)), (1,)), Keep(Filter(left, all_of(("null", column(4)))), (1,)),
                    Keep(Filter(left, ("is", column(4), value(None))), (1,)), Keep(Filter(depend("left"), ("null", column(4))), (1,)),
                    Keep(Filter(join("full"), ("null", column(4))), (1,)), Filter(left, ("null", column(4))),
                    Keep(Filter(left, ("null", ("coalesce", (column(4),)))), (1,)), Keep(Filter(left, ("null", value(4))), (1,)),
                    Keep(Filter(left, ("not", ("null", column(4)))), (1,)))

    def test_mark_semi(self):
        for node in (join, depend):
            self.fits("mark semi", Keep(Filter(node("mark"), ("truth", 9)), (2, 1)), Keep(node("semi"), (2, 1)))
            self.misses("mark semi", Keep(Filter(node("mark"), ("truth", 9)), (1, 9)), Keep(Filter(node("mark"), ("truth", 8)), (1,)),
                        Keep(Filter(node("mark"), ("not", ("truth", 9))), (1,)), Keep(Filter(node("mark"), all_of(("truth", 9), A)), (1,)),
                        Filter(node("mark"), ("truth", 9)), Keep(node("mark"), (1,)))

    def test_mark_anti(self):
        plan = Keep(Filter(join("mark", condition=equal(2, 4)), ("not", ("truth", 9))), (2, 1))
        self.fits("mark anti", plan, Keep(join("anti", condition=equal(2, 4)), (2, 1)))
        known = ("is", column(1), column(5))
        self.fits("mark anti", Keep(Filter(join("mark", condition=known), ("not", ("truth", 9))), ()), Keep(join("anti", condition=known), ()))
        denied = ("not", ("truth", 9))
        self.misses("mark anti", Keep(Filter(join("mark"), denied), (1,)), Keep(Filter(join("mark", condition=equal(2, 5)), denied), (1,)),
                    Keep(Filter(depend("mark", condition=equal(2, 4)), denied), (1,)), Keep(Filter(join("mark", condition=equal(2, 4)), denied), (1, 9)),
                    Keep(Filter(join("mark", condition=equal(2, 4)), ("truth", 9)), (1,)),
                    Keep(Filter(join("mark", condition=equal(2, 50)), denied), (1,)),
                    Keep(Filter(join("mark", condition=equal(2, 4)), ("not", ("truth", 50))), (1,)))

    def test_free(self):
        for kind in ("inner", "left", "semi", "anti", "mark", "single"):
            self.fits("free", depend(kind), join(kind))
            self.fits("free", depend(kind, right=Filter(U, equal(4, 50))), join(kind, right=Filter(U, equal(4, 50))))
            self.misses("free", depend(kind, right=Filter(U, equal(4, 1)), condition=ALWAYS), depend(kind, right=LOUD, condition=ALWAYS), join(kind))


class AtOthers(Laid):
    def test_once(self):
        self.fits("once", Distinct(Keep(U, (5, 4))), Keep(U, (5, 4)))
        self.fits("once", Distinct(Filter(U, ALWAYS)), Filter(U, ALWAYS))
        self.fits("once", Distinct(Group(T, (3,), [COUNT])), Group(T, (3,), [COUNT]))
        self.misses("once", Distinct(T), Distinct(Keep(U, (5,))), Distinct(V), Group(T, (3,), ()))

    def test_one_keep(self):
        self.fits("one keep", Keep(Keep(T, (3, 2, 1)), (1, 2)), Keep(T, (1, 2)))
        self.misses("one keep", Keep(T, (1, 2, 3)), Keep(Distinct(Keep(T, (1, 2))), (1,)))

    def test_no_keep(self):
        self.fits("no keep", Keep(T, (1, 2, 3)), T)
        self.fits("no keep", Keep(Keep(T, ()), ()), Keep(T, ()))
        self.misses("no keep", Keep(T, (1, 3, 2)), Keep(T, (1, 2)))

    def test_less(self):
        one, two = (8, ("+", column(1), column(2))), (9, A)
        self.fits("less", Keep(Compute(T, [one, two]), (9, 1)), Keep(Compute(T, [two]), (9, 1)))
        self.fits("less", Keep(Compute(T, [one, two]), (3,)), Keep(T, (3,)))
        self.misses("less", Keep(Compute(T, [one, two]), (8, 9)), Keep(Compute(T, ()), (1,)), Compute(T, [one]), Keep(T, (1,)))
        count, least = (8, ("count", None, False)), (9, ("least", column(1)))
        self.fits("less", Keep(Group(T, (2,), [count, least]), (9,)), Keep(Group(T, (2,), [least]), (9,)))
        self.fits("less", Keep(Group(T, (2,), [count, least]), (2,)), Keep(Group(T, (2,), ()), (2,)))
        self.fits("less", Keep(Group(T, (), [count, least]), (9,)), Keep(Group(T, (), [least]), (9,)))
        self.fits("less", Keep(Group(T, (), [count, least]), ()), Keep(Group(T, (), [count]), ()))
        self.fits("less", Keep(Group(T, (2,), [count]), ()), Keep(Group(T, (2,), ()), ()))
        self.misses("less", Keep(Group(T, (), [count]), ()), Keep(Group(T, (), ()), ()), Keep(Group(T, (2,), [count]), (8,)), Keep(Group(T, (2,), ()), ()))

    def test_no_number(self):
        self.fits("no number", Keep(Number(T, 8, (1,)), (2, 1)), Keep(T, (2, 1)))
        self.misses("no number", Keep(Number(T, 8), (8, 1)), Number(T, 8), Keep(Compute(T, ()), (1,)))

    def test_one_compute(self):
        one, two = (8, ("+", column(1), column(2))), (9, A)
        self.fits("one compute", Compute(Compute(T, [one]), [two]), Compute(T, [one, two]))
        self.fits("one compute", Compute(Compute(T, [one]), ()), Compute(T, [one]))
        self.misses("one compute", Compute(Compute(T, [one]), [(9, ("column", 8))]), Compute(Compute(T, [two]), [one, (7, ("truth", 9))]), Compute(T, [one]))

    def test_no_order(self):
        rule = Rule("no order")
        ordered = First(T, [(1, True)], None)
        self.assertEqual(Filter(T, A), rule.laid(KEYED, Filter(ordered, A), (0,)))
        self.assertEqual(First(T, (), 2), rule.laid(KEYED, First(ordered, (), 2), (0,)))
        self.fits("no order", First(T, [(1, True)], None, (2,)), T)
        self.misses("no order", ordered, First(T, [(1, True)], 3, (2,)), First(T, (), 0, (2,)))
        self.assertIs(False, rule.fits(KEYED, Filter(First(T, (), 5), A), (0,)))
        # What stands below has an order that the whole plan must not get.
        self.misses("no order", First(ordered, (), None, (1,)))
        self.assertEqual(Keep(ordered, ()), rule.laid(KEYED, Keep(First(ordered, (), None, (1,)), ()), (0,)))

    def test_lots(self):
        self.fits("lots", Group(T, (3, 1), ()), Distinct(Keep(T, (3, 1))))
        self.misses("lots", Group(T, (), ()), Group(T, (1,), [COUNT]), Distinct(T))


class Rules(Laid):
    def test_no_order_comes_to_the_whole_plan(self):
        ordered = First(U, [(4, True)], None)
        cut = First(U, (), 1)
        for below in (ordered, cut):
            for name, plan in [("idle", Filter(below, ALWAYS)), ("no keep", Keep(below, (4, 5))), ("once", Distinct(below)),
                               ("no order", First(below, (), None, (4,)))]:
                self.misses(name, plan)
                self.assertIs(True, Rule(name).fits(KEYED, Filter(plan, ALWAYS), (0,)))
                self.assertEqual(Filter(below, ALWAYS), Rule(name).laid(KEYED, Filter(plan, ALWAYS), (0,)))
        # A First with by is no order.
        self.assertEqual(First(U, (), 1, (4,)), Rule("no keep").laid(KEYED, Keep(First(U, (), 1, (4,)), (4, 5)), ()))

    def test_outcomes_that_are_no_plans(self):
        # 4 is a column of the surroundings for the Filter, and a column of the right part.
        hidden = Filter(Keep(join("semi"), (1, 2)), equal(1, 4))
        made = Rule("past keep").laid(KEYED, hidden, ())
        self.assertEqual(Keep(Filter(join("semi"), equal(1, 4)), (1, 2)), made)
        self.assertIs(False, Rule("to left").fits(KEYED, made, (0,)))
        plan = Filter(join("anti"), ("<", column(5), column(1)))
        self.misses("to left", plan)

    def test_names(self):
        self.assertEqual(NAMES, Rule.all_names())
        for name in NAMES:
            self.assertEqual(name, Rule(name).name)
            self.assertEqual(Rule(name), Rule(name))
            self.assertNotEqual(Rule(name), name)
        self.assertNotEqual(Rule("split"), Rule("merge"))
        for thing in ANYTHING + ["Split", "past", "no order ", ("split",), ["split"], Rule("split"), T]:
            with self.assertRaises(UnknownRule) as caught:
                Rule(thing)
            self.assertIs(thing, caught.exception.value)

    def test_paths(self):
        plan = Filter(Filter(Filter(T, ALWAYS), A), B)
        rule = Rule("idle")
        for path in ANYTHING + [(0,), (0, 0, 0), (1,), (0, 0, 0, 0), (-1,), (0, False), (False, 0), [0, 0], (0, 0.0), "00", ((0,),), (None,), T]:
            if path == () and isinstance(path, tuple):
                continue
            self.assertIs(False, rule.fits(KEYED, plan, path), path)
            with self.assertRaises(NoRule) as caught:
                rule.laid(KEYED, plan, path)
            self.assertEqual("idle", caught.exception.value)
            self.assertIs(path, caught.exception.path)
        self.assertIs(True, rule.fits(KEYED, plan, (0, 0)))
        self.assertEqual(Filter(Filter(T, A), B), rule.laid(KEYED, plan, (0, 0)))

    def test_places(self):
        plan = Union(Filter(Filter(T, ALWAYS), all_of(A, C)), Filter(Distinct(Filter(T, ALWAYS)), NEVER), (7, 8, 9))
        self.assertEqual([(0, 0), (1, 0, 0)], list(Rule("idle").places(KEYED, plan)))
        self.assertEqual([(0,)], list(Rule("split").places(KEYED, plan)))
        self.assertEqual([], list(Rule("turn").places(KEYED, plan)))
        self.assertEqual([("split", (0,)), ("merge", (0,)), ("idle", (0, 0)), ("vain", (1,)), ("past distinct", (1,)), ("idle", (1, 0, 0))],
                         list(all_places(KEYED, plan)))
        self.assertEqual([("merge", ()), ("past keep", (0,)), ("no keep", (0, 0))], [
            step for step in all_places(KEYED, Filter(Filter(Keep(V, (6,)), equal(6, 6)), equal(6, 6)))])
        steps = list(all_places(KEYED, plan))
        for name in NAMES:
            for path, _ in plan.walk():
                self.assertEqual((name, path) in steps, Rule(name).fits(KEYED, plan, path))

    def test_free_columns(self):
        plan = Filter(Filter(T, equal(1, 50)), ("truth", 60))
        self.assertEqual(Filter(T, all_of(equal(1, 50), ("truth", 60))), Rule("merge").laid(KEYED, plan, ()))
        self.assertEqual((50, 60), Rule("merge").laid(KEYED, plan, ()).free)
        # Below a Depend what is known there is nothing but a column of the surroundings.
        known = depend("semi", right=Filter(Keep(U, (4,)), equal(4, 1)), condition=ALWAYS)
        self.assertEqual(known.put((1,), Keep(Filter(U, equal(4, 1)), (4,))), Rule("past keep").laid(KEYED, known, (1,)))

    def test_nothing_is_changed(self):
        plan = Filter(join("inner"), all_of(A, B))
        before = plan.renamed({})
        for name, path in list(all_places(KEYED, plan)):
            one, other = Rule(name).laid(KEYED, plan, path), Rule(name).laid(KEYED, plan, path)
            self.assertEqual(one, other)
            self.assertEqual(before, plan)


if __name__ == "__main__":
    unittest.main()
