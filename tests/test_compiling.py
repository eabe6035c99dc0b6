"""The plan of a question, and its flat plan, have the plain answer [45, 46]."""

import random
import re
import unittest

from innerasks.binding import bind
from innerasks.compiling import compiled
from innerasks.databases import Database

from innerasks.errors import BadParameter
from innerasks.flattening import flat, is_flat
from innerasks.lotplans import First
from innerasks.plain import answer
from innerasks.reader import read_question
from innerasks.running import run
from asking import BASE, EMPTY, bound, outcome
from drawn_questions import Drawer, drawn_database, drawn_value
from plan_kinds import plan_kinds
from samples import ASKED

INNER = [
    "exists (select * from u where u.x = t.x)", "not exists (select * from u where u.x > t.x)",
    "exists (select 1 as k from u)", "y in (select x from u)", "x in (select x from u where z = t.s)",
    "x not in (select x from u where z <> t.s)", "x = any (select x from u where z is t.s)", "y < any (select x from u)",
    "x >= all (select x from u where z = t.s)", "x <> all (select x from u where u.x < t.y)",
    "x = one (select x from u where x = t.x and z = 'a')", "one (select count(*) as n from u where u.x = t.x) = 2",
    "one (select x from u where z = t.s) = x", "one (select least(z) as k from u where x = t.x) is s",
    "one (select sum(x) as k from u where x < t.y) is null", "x in (select x from u union select w from v where w = t.x)",
    "x in (select x from u except all select w from v where w = t.x)", "x in (select x from u intersect select w from v)",
    "x in (select distinct x from u where z = t.s)", "x in (select x from u where z >= t.s order by x desc first 1)",
    "s in (select z from u group by z having count(*) >= t.x)", "exists (select w from v left join u on w = u.x and z = t.s)",
    "y in (select u.x from v full join u on w = u.x and w = t.x)", "x in (select k from (select x as k from u where z = t.s) as a)",
    "exists (select * from u where x = t.x and z in (select s from t as b where b.x = t.x and b.y = u.x))",
    "one (select count(*) as n from u where x = t.x and one (select count(*) as n from v where w = t.x and w = u.x) > 0) = 1",
    "x > all (select sum(x) as k from u where z = t.s group by z)", "exists (select x from u where x in (select w from v where w = t.y))",
    "x = one (select most(w) as k from v where w <= all (select x from u where z = t.s))",
    "one (select x from u where x = t.x and one (select w from v where w = t.x or w = u.x) = 1) = 1",
]


class Compared(unittest.TestCase):
    def compare(self, question, bases, params=None, kinds=None):
        plan = compiled(ASKED, question)
        told = flat(plan)
        self.assertEqual((), plan.free)
        self.assertEqual((), told.free)
        self.assertEqual(plan.columns, told.columns)
        self.assertTrue(is_flat(told))
        self.assertEqual(plan_kinds(plan, {}), plan_kinds(told, {}))
        self.assertEqual({"value"}, set(plan_kinds(plan, {}).values()) or {"value"})
        outcomes = []
        for base in bases:
            expected = outcome(lambda: answer(base, question, params=params))
            self.assertEqual(expected, outcome(lambda: run(base, plan, params=params)), question)
            self.assertEqual(expected, outcome(lambda: run(base, told, params=params)), question)
            if expected != "several" and expected:
                self.assertEqual(len(plan.columns), len(expected[0]))
            outcomes.append(expected)
        return outcomes

    def compare_texts(self, texts, params=None, sizes=(1, 2, 2, 3, 3, 4)):
        maker = random.Random(7)
        bases = [BASE, EMPTY] + [drawn_database(maker, most) for most in sizes]
        found = []
        for text in texts:
            with self.subTest(text):
                found += self.compare(bound(text), bases, params)
        return found


class Written(Compared):
    def test_columns(self):
        for text in ["select * from t", "select x, x as k, 1 as n from t", "select t.x as a, y as b from t union select x, x as k from u",
                     "select * from t order by s desc", "select count(*) as n from t"]:
            question, columns = bind(ASKED, read_question(text))
            plan = compiled(ASKED, question)
            self.assertEqual(len(columns), len(plan.columns))
            self.assertEqual((), plan.free)
            self.assertEqual(len(plan.columns), len(set(plan.columns)))

    def test_an_order_is_the_last_node(self):
        for text in ["select x from t order by x", "select x from t union select x from u order by x first 2",
                     "(select x from t order by x) order by x desc"]:
            for plan in (compiled(ASKED, bound(text)), flat(compiled(ASKED, bound(text)))):
                self.assertIsInstance(plan, First)
                self.assertEqual((), plan.by)

    def test_without_inner_questions(self):
        self.compare_texts([
            "select * from t", "select distinct s, x from t where x > 1 or y is null", "select x + y as k, x, x as l from t",
            "select a.x, b.x as k from t as a, t as b where a.x = b.x", 
            "select w, y from (t as a join v on a.x = w) left join u as b on b.x is w where coalesce(y, 1) > 0",
            "select w, u.x, z from v full join u on w = x and z <> 'a'", "select x, count(*) as n, count(distinct s) as m, sum(y) as k, "
            "least(s) as a, most(y + 1) as b from t group by x having count(y) > 0", "select count(*) as n from t where x > 5",
            "select sum(x) as k from t group by ()", "select 1 as k from t having count(*) = 0", "select x from t union all select x from u",
            "select x from t except select x from u union select w from v", "select x from t except all select x from u",
            "select x from t intersect all select x from u", "select x, y from t order by y desc, x first 2",
            "select k from (select x as k, count(*) as n from u group by x) as a where n > 1",
            "select case when x = 1 then s when x is null then 'n' else '' end as k from t",
        ])

    def test_in_items(self):
        texts = [f"select x, s, case when {text} then 1 when not ({text}) then 0 end as k from t" for text in INNER]
        found = self.compare_texts(texts)
        self.assertIn("several", found)
        self.compare_texts([
            "select one (select z from u where u.x = t.x order by z first 1) as k, one (select y from v where w = t.x order by y first 1) as l "
            "from t", "select x, one (select t.x + count(*) as n from u where u.x = t.x) as k from t",
            "select one (select t.y as k from v where w = t.x) as k from t", "select t.s, one (select t.s as k from v where w = 1) as k from t",
        ])

    def test_in_where(self):
        self.compare_texts([f"select x, y from t where {text}" for text in INNER])
        self.compare_texts([f"select x from t where not ({text}) or s = 'a'" for text in INNER[::2]])

    def test_in_having_and_groups(self):
        # Only the groups are seen.
        texts = [re.sub(r"(?<![\w.])y\b|\bt\.y\b", "t.x", text) for text in INNER]
        self.compare_texts([f"select x, s, count(*) as n from t group by x, s having {text}" for text in texts])
        self.compare_texts([f"select s, case when {text} then sum(y) end as n from t group by x, s" for text in texts])

    def test_in_aggregates(self):
        self.compare_texts([f"select s, count(case when {text} then 1 end) as n from t group by s" for text in INNER])
        self.compare_texts([f"select sum(case when {text} then x else y end) as n, count(*) as m from t" for text in INNER[::3]])

    def test_in_conditions_of_joins(self):
        for kind in ("join", "left join", "full join"):
            self.compare_texts([f"select t.x, y, w from t {kind} v on {text}" for text in INNER[:20]])
            self.compare_texts([f"select t.x, y, w from v {kind} t on w = x and not ({text})" for text in INNER[::3]])
            self.compare_texts([f"select a.w, b.w as k, x from v as a left join (v as b {kind} t on {text}) on a.w = t.x" for text in INNER[::5]])

    def test_in_orders_and_sets(self):
        self.compare_texts([f"select x, y from t where {text} order by y desc, x first 2" for text in INNER[::3]])
        for words in ("union", "union all", "except", "except all", "intersect", "intersect all"):
            self.compare_texts([f"select x from t where {text} {words} select w from v where w in (select x from t where x = v.w)"
                                for text in INNER[::6]])
            self.compare_texts([f"select x, one (select sum(x) as k from (select w as x from v where w = t.x {words} "
                                "select x from u where z = t.s) as a) as n from t"])

    def test_in_sources(self):
        self.compare_texts([f"select * from (select x as a, s as b from t where {text}) as q, v where q.a = v.w" for text in INNER[::4]])
        self.compare_texts(["select w from v where exists (select * from (select x as k from t where t.x = v.w) as a left join u on k = u.x)",
                            "select w from v where w in (select k from (select count(*) as k from u where u.x = v.w) as a)"])

    def test_several(self):
        texts = [
            "select one (select x from u) as k from t", "select x from t where one (select x from u where z = t.s) = 1",
            "select x from t where x = 1 and one (select x from u where z = t.s) = 1",
            "select x from t where x = 1 or one (select x from u where u.x = t.x) = 1",
            "select x from t where exists (select * from u where u.x = t.x and one (select w from v where w < u.x) = 1)",
            "select x from t where exists (select * from v where w = t.x and one (select x from u) = 1)",
            "select w from v left join t on one (select x from u where u.x = t.x) = w",
            "select w from v full join (select one (select x from u) as k from t) as a on k = w",
            "select x, one (select z from u where u.x = t.x) as k from t group by x", 
            "select 1 as k from t having one (select x from u) = 1",
            "select count(one (select z from u where u.x = t.x)) as n from t",
            "select x, count(one (select z from u where u.x = t.x)) as n from t group by x having x = 2",
            "select x from t where coalesce(1, one (select x from u where u.x = t.x)) = 1 order by x first 0",
            "select x from t union select one (select x from u) as k from v",
            "select w from v where w in (select one (select x from u where u.x > v.w) as k from t)",
            "select w from v where exists (select * from (select one (select x from u where u.x = v.w) as k from t) as a)",
            "select w from v where one (select one (select x from u where u.x = t.x) as k from t where t.x = v.w) = 1",
            "select w from v where one (select count(*) as n from t where t.x = v.w and one (select z from u where u.x = v.w) = 'a') = 1",
        ]
        found = self.compare_texts(texts, sizes=(2, 3, 4, 5, 5, 6, 6, 6))
        self.assertGreater(found.count("several"), 40)
        self.assertGreater(len(found) - found.count("several"), 40)

    def test_parameters(self):
        for params in ({"p": 1, "q": "a"}, {"p": None, "q": None}):
            self.compare_texts(["select :p as k, x from t where s = :q or exists (select * from u where u.x = :p and z = t.s)",
                                "select :p as k, count(*) as n from t where s = :q having count(*) > :p"], params)
        question = bound("select :p as k from t")
        for plan in (compiled(ASKED, question), flat(compiled(ASKED, question))):
            with self.assertRaises(BadParameter):
                run(BASE, plan)

    def test_outer_joins_of_outer_joins(self):
        def chain(kind, many, bad):
            source = "v as aq"
            for one, other in zip("abcdefghijk"[:many], "bcdefghijk"):
                told = f"one (select x from u where u.x = {one}q.w and u.x < {other}q.w) = 1" if bad else (
                    f"exists (select * from u where u.x = {one}q.w and u.x < {other}q.w)")
                source = f"({source} {kind} join v as {other}q on {told})"
            return f"select aq.w from {source}"
        for kind in ("left", "full"):
            for bad in (False, True):
                self.compare_texts([chain(kind, many, bad) for many in (1, 2, 3)])
            sizes = [len(flat(compiled(ASKED, bound(chain(kind, many, False))))) for many in (5, 6, 7)]
            # Each join more makes the plan as much larger as the one ahead of it did.
            self.assertLessEqual(sizes[2] - sizes[1], sizes[1] - sizes[0])
            self.assertLessEqual(sizes[2], 150)

    def test_sides_of_outer_joins_that_may_be_several(self):
        small, large = "v", "(t join v as e on e.w = t.y)"
        bad = "(select one (select x from u where x = :p) as k from t) as b"
        worse = "(v as d left join (select one (select x from u where x < w) as k, w from v) as c on c.w = d.w)"
        pairs = [(one, other) for one in (small, large, bad, worse) for other in (small, large, bad, worse) if one != other]
        texts = [f"select 1 as l from {one} {kind} join {other} on exists (select * from u where u.x = :p)"
                 for one, other in pairs for kind in ("inner", "left", "full")]
        texts += [f"select k, w from {one} {kind} join {other} on exists (select * from u where u.x = w or u.x = k or u.x = :p)"
                  for one, other in ((small, bad), (bad, small)) for kind in ("inner", "left", "full")]
        two = {"u": [(1, "a"), (1, "b")]}
        bases = [Database(ASKED, rows) for rows in (
            {}, two, {**two, "v": [(1,), (2,)]}, {"t": [(1, 1, "a")]}, {**two, "t": [(1, 1, "a")]}, {**two, "t": [(1, 1, "a")], "v": [(1,), (2,)]},
            {"u": [(1, "a"), (0, "b")], "t": [(1, 1, "a")], "v": [(1,), (2,)]}, {"u": [(1, "a")], "t": [(1, 1, "a"), (2, 2, "b")], "v": [(1,)]},
        )]
        outcomes = []
        for text in texts:
            outcomes += self.compare(bound(text), bases, {"p": 1})
        self.assertGreater(outcomes.count("several"), 50)
        self.assertGreater(len(outcomes) - outcomes.count("several"), 50)

    def test_flat_plans_are_small(self):
        for text, most in [
            ("select x from t where exists (select * from u where u.x = t.x)", 5),
            ("select x from t where x in (select w from v where w > t.y and w in (select x from u))", 8),
            ("select x, one (select count(*) as n from u where u.x = t.x) as n from t", 10),
            ("select x from t where exists (select * from u where u.x = t.x and u.x in (select w from v where w = t.y or w = u.x))", 20),
            ("select x from t where one (select sum(w) as k from v where w < one (select count(*) as n from u where u.x = t.x "
             "and u.x = v.w)) > 1", 40),
            ("select one (select x from u where x = t.x) as a, one (select x from u where x = t.y) as b, one (select z from u where x = t.x) as c,"
             " one (select w from v where w = t.x) as d from t", 20),
            ("select x from t where y > all (select x from u where z = t.s and x < any (select w from v where w = t.x and w >= all "
             "(select b.x from t as b where b.s = u.z and b.y = t.y)))", 60),
        ]:
            self.assertLessEqual(len(flat(compiled(ASKED, bound(text)))), most, text)


class Drawn(Compared):
    def test_many_questions(self):
        found = []
        for seed in range(500):
            drawer = Drawer(seed)
            question = drawer.question([], 3 + seed % 2, drawer.kinds())
            try:
                question, _ = bind(ASKED, question)
            except ValueError as error:
                # An item of nulls alone counts as whole outside of its question.
                self.assertEqual("BadKind", type(error).__name__)
                continue
            maker = random.Random(seed)
            found += self.compare(question, [drawn_database(maker) for _ in range(3)])
        self.assertGreater(len(found), 1300)
        self.assertGreater(found.count("several"), 50)
        self.assertGreater(len([rows for rows in found if rows and rows != "several"]), 500)

    def test_questions_with_parameters(self):
        for seed in range(3000, 3150):
            drawer = Drawer(seed, {"whole": "p", "text": "q"})
            question = drawer.question([], 3, drawer.kinds())
            try:
                question, _ = bind(ASKED, question)
            except ValueError:
                continue
            maker = random.Random(seed)
            params = {"p": drawn_value(maker, "whole"), "q": drawn_value(maker, "text")}
            told = {name: params[name] for name in drawer.used}
            self.compare(question, [drawn_database(maker) for _ in range(2)], told)
            for plan in (compiled(ASKED, question), flat(compiled(ASKED, question))):
                for name in told:
                    with self.assertRaises(BadParameter) as caught:
                        run(BASE, plan, params={other: 1 for other in told if other != name})
                    self.assertEqual(name, caught.exception.word)
                with self.assertRaises(BadParameter) as caught:
                    run(BASE, plan, params={**told, "z": 1})
                self.assertEqual("z", caught.exception.word)

    def test_deep_questions(self):
        for seed in range(1000, 1060):
            drawer = Drawer(seed)
            question = drawer.question([], 5, drawer.kinds())
            try:
                question, _ = bind(ASKED, question)
            except ValueError:
                continue
            maker = random.Random(seed)
            self.compare(question, [drawn_database(maker, 2) for _ in range(2)])


if __name__ == "__main__":
    unittest.main()
