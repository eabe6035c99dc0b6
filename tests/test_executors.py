"""Ways of running [60 to 62]."""

import random
import unittest
from itertools import product

from innerasks.compiling import compiled
from innerasks.databases import Database
from innerasks.errors import BadColumns, BadParameter, BadWay, FreeColumns, NoPlace, NotFlat, Several, UnknownTable
from innerasks.executors import Execution, best_ways, links
from innerasks.flattening import flat
from innerasks.lotplans import First, Group, Number
from innerasks.pairplans import Depend, Except, Intersect, Join, Union
from innerasks.plans import Compute, Distinct, Filter, Keep, Rows, Scan
from innerasks.running import run
from innerasks.values import value_place
from asking import BASE, bound, outcome
from drawn_plans import PlanDrawer
from drawn_questions import drawn_database
from samples import ANYTHING, ASKED
from shaped_plans import SHAPES, ShapeDrawer
from test_compiling import INNER
from test_facts import column, equal, value
from test_rules import A, ALWAYS, all_of

T = Scan("t", (1, 2, 3))
U = Scan("u", (4, 5))
V = Scan("v", (6,))
KINDS = ("inner", "left", "full", "semi", "anti", "single")


def links_told(join):
    """The links by point 60."""
    def parts(condition):
        if condition[0] == "and":
            return [part for inner in condition[1] for part in parts(inner)]
        return [condition]
    told = []
    for part in parts(join.condition):
        if part[0] in ("=", "is") and part[1][0] == part[2][0] == "column":
            for one, other in ((part[1][1], part[2][1]), (part[2][1], part[1][1])):
                if one in join.left.columns and other in join.right.columns:
                    told.append((part[0], one, other))
    return told


def places_of(plan, told, at):
    return [plan.columns.index(link[at]) for link in told]


def sides_told(join, left, right):
    """For both sides the values of each row in the links, None for a row that is left out."""
    told = links_told(join)
    sides = []
    for rows, plan, at in ((left, join.left, 1), (right, join.right, 2)):
        side = []
        for row in rows:
            values = [row[place] for place in places_of(plan, told, at)]
            is_out = any(link[0] == "=" and one is None for link, one in zip(told, values))
            side.append(None if is_out else tuple(value_place(one) for one in values))
        sides.append(side)
    return sides


def count_told(join, way, left, right):
    """The steps, and the pairs that are looked at."""
    if way == "nested":
        return 0, len(left) * len(right)
    ones, others = sides_told(join, left, right)
    met = sum(one == other and one is not None for one in ones for other in others)
    if way == "hashed":
        return len([one for one in ones + others if one is not None]), met
    lots, more = (sorted({one for one in side if one is not None}) for side in (ones, others))
    steps = 0
    while lots and more:
        steps += 1
        low = min(lots[0], more[0])
        lots, more = [lot for lot in lots if lot > low], [lot for lot in more if lot > low]
    return steps, met


def answers_at(base, plan, params=None):
    """The rows of each node, by its path; the nodes are run by themselves."""
    return {path: run(base, Keep(node, node.columns), params=params) for path, node in plan.walk()}


def counts_told(base, plan, ways, params=None):
    rows = answers_at(base, plan, params)
    counts = {}
    for path, node in plan.walk():
        below = [rows[path + (index,)] for index in range(len(node.parts))]
        read = sum(map(len, below))
        steps, looked = 0, read if isinstance(node, Filter) else 0
        if isinstance(node, Join):
            steps, looked = count_told(node, ways.get(path, "nested"), *below)
        counts[path] = (read, steps, looked, len(rows[path]))
    return counts


def ways_told(plan):
    """All choices of ways of the joins of a plan."""
    joins = [(path, node) for path, node in plan.walk() if isinstance(node, Join)]
    told = [Execution.WAYS if links_told(node) and node.kind != "mark" else ("nested",) for _, node in joins]
    return [{path: way for (path, _), way in zip(joins, choice)} for choice in product(*told)]


class Links(unittest.TestCase):
    def test_links(self):
        def told(condition, left=T, right=U, kind="inner", node=Join):
            return links(node(kind, left, right, condition))
        self.assertEqual([("=", 1, 4)], told(equal(1, 4)))
        self.assertEqual([("=", 1, 4)], told(equal(4, 1)))
        self.assertEqual([("is", 3, 5)], told(("is", column(5), column(3))))
        self.assertEqual([("=", 1, 4), ("is", 3, 5), ("=", 2, 4)], told(all_of(equal(1, 4), ("is", column(3), column(5)), equal(4, 2))))
        self.assertEqual([("=", 1, 4), ("=", 2, 4), ("is", 3, 5)], told(all_of(all_of(equal(1, 4), A, all_of(equal(2, 4))), ("is", column(5), column(3)))))
        self.assertEqual([("=", 1, 4), ("=", 1, 4)], told(all_of(equal(1, 4), equal(4, 1))))
        self.assertEqual([("=", 1, 4)], told(equal(1, 4), node=Depend))
        self.assertEqual([("=", 1, 4)], links(Join("mark", T, U, equal(1, 4), 9)))
        for condition in (ALWAYS, equal(1, 2), equal(4, 4), ("<", column(1), column(4)), ("<>", column(1), column(4)), ("=", column(1), value(1)),
                          ("or", (equal(1, 4),)), ("not", ("not", equal(1, 4))), ("=", ("+", column(1), value(0)), column(4)), equal(1, 50), equal(50, 60),
                          ("=", ("coalesce", (column(1),)), column(4)), ("=", column(1), value(4)), ("=", value(1), column(4)), ("is", value(4), value(1)), ("null", column(1)), all_of(("or", (equal(1, 4), A)), equal(1, 3))):
            self.assertEqual([], told(condition), condition)
        self.assertIsInstance(told(ALWAYS), list)


class Counts(unittest.TestCase):
    def test_ways(self):
        self.assertEqual(("nested", "hashed", "merged"), Execution.WAYS)

    def test_properties(self):
        base = Database(ASKED, {"t": [(1, 1, "a"), (1, 2, "b"), (None, 1, "a")], "u": [(1, "a"), (2, "b"), (None, None)]})
        plan = Join("inner", T, U, equal(1, 4))
        for ways, count in ((None, (6, 0, 9, 2)), ({}, (6, 0, 9, 2)), ({(): "nested"}, (6, 0, 9, 2)), ({(): "hashed"}, (6, 4, 2, 2)), ({(): "merged"}, (6, 1, 2, 2))):
            told = Execution(base, plan, ways=ways)
            self.assertEqual([(1, 1, "a", 1, "a"), (1, 2, "b", 1, "a")], told.rows)
            self.assertEqual({(): count, (0,): (0, 0, 0, 3), (1,): (0, 0, 0, 3)}, told.counts)
            self.assertEqual(sum(count[:3]), told.work)
        told.counts.clear()
        told.rows.clear()
        self.assertEqual(3, len(told.counts))
        self.assertEqual(2, len(told.rows))

    def test_nulls_and_lots(self):
        base = Database(ASKED, {"t": [(1, None, "a"), (1, 2, "b"), (None, 1, "a"), (None, None, None), (2, 2, "a"), (3, 1, "b")],
                                "u": [(1, "a"), (1, "b"), (None, "a"), (None, None), (3, "b"), (5, None)]})
        def count(condition, way, kind="inner"):
            return Execution(base, Join(kind, T, U, condition), ways={(): way}).counts[()]
        # Lots of left by x: 1, 2, 3, of right: 1, 3, 5; then 2 comes ahead of 3, and left has no more behind 3.
        self.assertEqual((12, 8, 5, 5), count(equal(1, 4), "hashed"))
        self.assertEqual((12, 3, 5, 5), count(equal(1, 4), "merged"))
        # Nulls meet in `is`: one lot more on both sides, the first.
        same = ("is", column(1), column(4))
        self.assertEqual((12, 12, 9, 9), count(same, "hashed"))
        self.assertEqual((12, 4, 9, 9), count(same, "merged"))
        two = all_of(same, equal(3, 5))
        # Left: (null, a), (1, a), (1, b), (2, a), (3, b); right: (null, a), (1, a), (1, b), (3, b).
        self.assertEqual((12, 9, 4, 4), count(two, "hashed"))
        self.assertEqual((12, 5, 4, 4), count(two, "merged"))
        for kind, made in (("left", 8), ("full", 11), ("semi", 3), ("anti", 3)):
            self.assertEqual((12, 3, 5, made), count(equal(1, 4), "merged", kind))
        # Parts that are no links are looked at for the pairs that meet.
        told = all_of(equal(1, 4), ("<", column(2), column(4)))
        self.assertEqual((12, 3, 5, 1), count(told, "merged"))
        self.assertEqual((12, 0, 36, 1), count(told, "nested"))

    def test_sides_without_rows(self):
        base = Database(ASKED, {"t": [(1, 1, "a"), (2, 1, "a")]})
        for kind, made in (("inner", 0), ("left", 2), ("full", 2), ("semi", 0), ("anti", 2), ("single", 2)):
            for way, steps in (("nested", 0), ("hashed", 2), ("merged", 0)):
                self.assertEqual((2, steps, 0, made), Execution(base, Join(kind, T, U, equal(1, 4)), ways={(): way}).counts[()])

    def test_each_node(self):
        base = Database(ASKED, {"t": [(1, 1, "a"), (2, 1, "a"), (2, 1, "a")], "v": [(1,), (5,)]})
        for node, count in [
            (T, (0, 0, 0, 3)), (Rows((1,), [(1,), (2,)]), (0, 0, 0, 2)), (Filter(T, A), (3, 0, 3, 3)), (Filter(T, ("or", ())), (3, 0, 3, 0)),
            (Compute(T, [(9, A)]), (3, 0, 0, 3)), (Keep(T, ()), (3, 0, 0, 3)), (Distinct(T), (3, 0, 0, 2)), (Number(T, 9), (3, 0, 0, 3)),
            (Group(T, (1,), ()), (3, 0, 0, 2)), (First(T, (), 1), (3, 0, 0, 1)), (Union(Keep(T, (1,)), V, (7,)), (5, 0, 0, 5)),
            (Except(Keep(T, (1,)), V, (7,)), (5, 0, 0, 2)), (Intersect(Keep(T, (1,)), V, (7,)), (5, 0, 0, 1)), (Join("inner", T, V, ALWAYS), (5, 0, 6, 6)),
            (Join("mark", T, V, equal(1, 6), 9), (5, 0, 6, 3)),
        ]:
            told = Execution(base, node)
            self.assertEqual(count, told.counts[()])
            self.assertEqual(set(path for path, _ in node.walk()), set(told.counts))
            self.assertEqual(told.rows, run(base, node))
        ordered = First(T, [(1, True)], None)
        self.assertEqual([(2, 1, "a"), (2, 1, "a"), (1, 1, "a")], Execution(base, ordered).rows)

    def test_three_joins_in_all_ways(self):
        plan = Join("left", Join("full", Join("inner", T, U, equal(1, 4)), V, ("is", column(2), column(6))), Scan("u", (7, 8)), all_of(equal(7, 1), equal(8, 3)))
        maker = random.Random(5)
        for _ in range(12):
            base = drawn_database(maker, 6)
            expected = run(base, plan)
            works = []
            for ways in ways_told(plan):
                told = Execution(base, plan, ways=ways)
                self.assertEqual(expected, told.rows)
                self.assertEqual(counts_told(base, plan, ways), told.counts)
                self.assertEqual(sum(sum(count[:3]) for count in told.counts.values()), told.work)
                works.append((told.work, [Execution.WAYS.index(ways[path]) for path in sorted(ways)], ways))
            self.assertEqual(27, len(works))
            best = min(works, key=lambda one: one[:2])
            self.assertEqual(best[2], best_ways(base, plan))

    def test_links_of_one_column(self):
        plan = Join("inner", T, U, all_of(equal(1, 4), equal(2, 4), ("is", column(3), column(5))))
        maker = random.Random(6)
        for _ in range(30):
            base = drawn_database(maker, 6)
            for way in Execution.WAYS:
                told = Execution(base, plan, ways={(): way})
                self.assertEqual(run(base, plan), told.rows)
                self.assertEqual(counts_told(base, plan, {(): way}), told.counts)

    def test_drawn_plans(self):
        joins = several = 0
        for seed in range(700):
            drawer = PlanDrawer(seed) if seed % 2 else ShapeDrawer(seed, list(range(1, 25)))
            plan = flat(drawer.plan(3, {})[0] if seed % 2 else drawer.shaped(SHAPES[seed // 2 % len(SHAPES)], {})[0])
            if plan.free:
                continue
            maker = random.Random(seed)
            told = ways_told(plan)
            for base in [drawn_database(maker, 4) for _ in range(2)]:
                expected = outcome(lambda: run(base, plan))
                works = []
                for ways in random.Random(seed).sample(told, min(len(told), 9)):
                    joins += len([way for way in ways.values() if way != "nested"])
                    if expected == "several":
                        several += 1
                        for call in (lambda: Execution(base, plan, ways=ways), lambda: best_ways(base, plan)):
                            with self.assertRaises(Several):
                                call()
                        continue
                    found = Execution(base, plan, ways=ways)
                    self.assertEqual(expected, found.rows)
                    if all(is_whole_kinded(node) for _, node in plan.walk()):
                        self.assertEqual(counts_told(base, plan, ways), found.counts)
                    works.append(found.work)
                if expected != "several":
                    best = best_ways(base, plan)
                    self.assertEqual(set(best), {path for path, node in plan.walk() if isinstance(node, Join)})
                    self.assertLessEqual(Execution(base, plan, ways=best).work, min(works))
        self.assertGreater(joins, 300)
        self.assertGreater(several, 20)

    def test_questions(self):
        for text in INNER[::2]:
            plan = flat(compiled(ASKED, bound(f"select x, y from t where {text}")))
            expected = outcome(lambda: run(BASE, plan))
            for ways in ways_told(plan)[:20]:
                self.assertEqual(expected, outcome(lambda: Execution(BASE, plan, ways=ways).rows))


def is_whole_kinded(node):
    """Nodes whose rows are the same when they are run below another one: all but those with free columns."""
    return not node.free


class Best(unittest.TestCase):
    def test_the_first_of_several(self):
        base = Database(ASKED, {"t": [(1, 1, "a")], "u": [(1, "a")]})
        # nested: 1 pair; hashed: 2 steps and 1 pair; merged: 1 step and 1 pair.
        self.assertEqual({(): "nested"}, best_ways(base, Join("inner", T, U, equal(1, 4))))
        base = Database(ASKED, {"t": [(1, 1, "a"), (1, 2, "a")], "u": [(1, "a"), (2, "b")]})
        # nested: 4 pairs; hashed: 4 steps and 2 pairs; merged: 1 step and 2 pairs.
        self.assertEqual({(): "merged"}, best_ways(base, Join("inner", T, U, equal(1, 4))))
        # No link, and a mark.
        self.assertEqual({(): "nested"}, best_ways(base, Join("inner", T, U, ("<", column(1), column(4)))))
        self.assertEqual({(): "nested"}, best_ways(base, Join("mark", T, U, equal(1, 4), 9)))
        # Hashed takes as much as merged, with one row on each side and none that meets: 2 steps against 1; nested 1.
        base = Database(ASKED, {"t": [(1, 1, "a"), (2, 2, "a"), (3, 3, "a")], "u": [(None, "a"), (None, "b")]})
        self.assertEqual({(): "merged"}, best_ways(base, Join("inner", T, U, equal(1, 4))))
        base = Database(ASKED, {"t": [(None, 1, "a"), (None, 2, "a")], "u": [(None, "a"), (None, "b")]})
        self.assertEqual({(): "hashed"}, best_ways(base, Join("inner", T, U, equal(1, 4))))
        self.assertEqual({(): "nested"}, best_ways(Database(ASKED), Join("inner", T, U, equal(1, 4))))
        self.assertEqual({}, best_ways(base, Filter(T, A)))

    def test_paths(self):
        plan = Filter(Join("semi", T, Keep(Join("inner", U, V, equal(4, 6)), (4,)), equal(1, 4)), A)
        self.assertEqual({(0,), (0, 1, 0)}, set(best_ways(BASE, plan)))


class Wrong(unittest.TestCase):
    PARAM = Filter(U, ("=", column(4), ("param", "p")))
    SINGLE = Join("single", Rows((8,), [(1,)]), Rows((9,), [(1,), (1,)]), equal(8, 9))

    def raises(self, error, field, told, plan, ways=None, params=None):
        calls = [lambda: Execution(BASE, plan, ways=ways, params=params)]
        if error not in (NoPlace, BadWay):
            calls.append(lambda: best_ways(BASE, plan, params=params))
        for call in calls:
            with self.assertRaises(error) as caught:
                call()
            if field is not None:
                self.assertEqual(told, getattr(caught.exception, field))

    def test_each(self):
        self.raises(NotFlat, "path", (), Depend("semi", T, U, ALWAYS))
        self.raises(NotFlat, "path", (0, 1), Filter(Join("semi", T, Depend("semi", U, V, ALWAYS), ALWAYS), A))
        self.raises(NotFlat, "path", (0,), Join("inner", Depend("semi", T, Depend("semi", U, V, ALWAYS), ALWAYS), Depend("semi", U, V, ALWAYS), ALWAYS))
        self.raises(FreeColumns, "value", (50, 60), Filter(T, equal(60, 50)))
        self.raises(UnknownTable, "word", "q", Scan("q", ()))
        self.raises(BadColumns, "word", "t", Scan("t", (1,)))
        self.raises(BadParameter, "word", "p", self.PARAM)
        self.raises(BadParameter, "word", "z", self.PARAM, params={"p": 1, "z": 2})
        self.raises(Several, None, None, self.SINGLE)
        self.assertEqual([(1, "a"), (1, "b")], Execution(BASE, self.PARAM, params={"p": 1}).rows)
        self.assertEqual({}, best_ways(BASE, self.PARAM, params={"p": 1}))

    def test_the_first_of_several_errors(self):
        bad = {"x": 1}
        dependent = Depend("semi", Filter(Scan("q", (1, 2)), equal(1, 50)), self.PARAM, ALWAYS)
        self.raises(NotFlat, "path", (), dependent, bad)
        self.raises(FreeColumns, "value", (50,), Filter(Scan("q", (1, 2)), equal(1, 50)), bad)
        self.raises(UnknownTable, "word", "q", Join("semi", Scan("q", (1, 2)), self.PARAM, ALWAYS), bad)
        self.raises(BadColumns, "word", "t", Join("semi", Scan("t", (1, 2)), self.PARAM, ALWAYS), bad)
        self.raises(BadParameter, "word", "p", Join("semi", self.SINGLE, self.PARAM, ALWAYS), bad)
        self.raises(NoPlace, "path", "x", Join("inner", T, U, ALWAYS), {(): "merged", "x": "nested"})
        self.raises(BadWay, "path", (), Join("inner", self.SINGLE, U, ALWAYS), {(): "merged"})
        self.raises(Several, None, None, Join("inner", self.SINGLE, U, equal(8, 4)), {(): "merged"})
        self.raises(Several, None, None, Join("inner", self.SINGLE, U, equal(8, 4)), {(): "merged", (0,): "hashed"})

    def test_keys_that_are_no_paths(self):
        plan = Filter(Join("inner", T, Join("inner", U, V, equal(4, 6)), equal(1, 4)), A)
        keys = [thing for thing in ANYTHING if isinstance(thing, (int, str, bool)) or thing is None or thing == ()] + [
            (("x",),), ("x",), (None,), (1,), (0, 0), (0, 1, 0), (0, 1, 1), (0, 2), (-1,), (0, -1), (0, 1, 0, 0), (False,), (False, True), (0, True),
            ("0",), frozenset([0]), ((0,),), 0, "(0,)"]
        for key in keys:
            for way in ("nested", "merged", "nothing", None):
                with self.assertRaises(NoPlace) as caught:
                    Execution(BASE, plan, ways={key: way})
                self.assertIs(key, caught.exception.path)
        with self.assertRaises(NoPlace) as caught:
            Execution(BASE, plan, ways={(0,): "hashed", (1,): "hashed", (5,): "hashed"})
        self.assertIn(caught.exception.path, [(1,), (5,)])
        self.assertEqual(run(BASE, plan), Execution(BASE, plan, ways={(0,): "hashed", (0, 1): "merged"}).rows)

    def test_ways_that_are_wrong(self):
        plan = Join("inner", T, Join("semi", U, V, ("<", column(4), column(6))), equal(1, 4))
        for way in ANYTHING + ["Nested", "hash", ["nested"], ("nested",), "nested "]:
            self.raises(BadWay, "path", (), plan, {(): way})
            self.raises(BadWay, "path", (1,), plan, {(1,): way})
            self.raises(BadWay, "path", (1,), plan, {(): "hashed", (1,): way})
            self.raises(BadWay, "path", (), plan, {(1,): way, (): way})
        # A way that needs a link, or a kind other than mark.
        for way in ("hashed", "merged"):
            self.raises(BadWay, "path", (1,), plan, {(1,): way})
            self.raises(BadWay, "path", (), Join("mark", T, U, equal(1, 4), 9), {(): way})
            for kind in KINDS:
                self.raises(BadWay, "path", (), Join(kind, T, U, ALWAYS), {(): way})
        self.assertEqual(run(BASE, plan), Execution(BASE, plan, ways={(): "merged", (1,): "nested"}).rows)

    def test_what_is_passed_is_not_changed(self):
        ways, params = {(): "hashed"}, {"p": 1}
        plan = Join("inner", T, self.PARAM, equal(1, 4))
        told = Execution(BASE, plan, ways=ways, params=params)
        best_ways(BASE, plan, params=params)
        self.assertEqual(({(): "hashed"}, {"p": 1}), (ways, params))
        ways[()] = "nested"
        self.assertEqual(told.counts, Execution(BASE, plan, ways={(): "hashed"}, params=params).counts)


if __name__ == "__main__":
    unittest.main()
