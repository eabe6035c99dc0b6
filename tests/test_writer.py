"""The written form [23]."""

import unittest

from innerasks.reader import read_question
from innerasks.writer import write_question

X = ("column", None, "x")
Y = ("column", None, "y")
Z = ("column", None, "z")
T = ("table", "t", "t")
PLAIN = ("select", False, ((X, "x"),), T, None, None, None)


class Forms(unittest.TestCase):
    """Texts that are in the written form, and others that are read to the same question."""

    def stays(self, *texts):
        for text in texts:
            self.assertEqual(text, write_question(read_question(text)))

    def becomes(self, text, *others):
        self.stays(text)
        for other in others:
            self.assertEqual(text, write_question(read_question(other)), other)

    def where(self, text, *others):
        head = "select x from t where "
        self.becomes(head + text, *[head + other for other in others])


class Questions(Forms):
    def test_the_example(self):
        self.stays("select count(*) as n from t as a where a.x in (select x from u) and not (y = -3 or y is null) "
                   "group by a.x")

    def test_selects(self):
        self.becomes("select x from t", " select\n(x)as x from (t)", "((select x from t))")
        self.stays("select * from t", "select distinct * from t", "select distinct x, y as z, t.x as a, t.z from t",
                   "select x from t where x = 1 group by x, t.y having count(*) > 1", "select 1 as n from t group by ()",
                   "select x from t having x = 1")
        self.becomes("select x, t.y, x + 1 as z, x as y from t", "select x as x , t . y as y , (x + 1) as z , (x) as y from t")
        self.becomes("select x from t group by x, t.y", "select x from t group by x , t . y")
        self.becomes("select 1 as x from t group by ()", "select 1 as x from t group by ( )")

    def test_aliases(self):
        self.becomes("select x from t", "select x from t as t")
        self.stays("select x from t as u", "select x from (select x from t) as t")
        self.becomes("select x from (select x from t) as a", "select x from ((select x from t)) as a",
                     "select x from ((select x from t) as a)")

    def test_joins(self):
        self.becomes("select x from t cross join u", "select x from t, u", "select x from (t), (u)")
        self.becomes("select x from t join u on x = y", "select x from t inner join u on (x = y)")
        self.stays("select x from t left join u on x = y full join v on x or y cross join w",
                   "select x from t join (u join v on x) on y", "select x from t cross join (u cross join v)",
                   "select x from t left join (u cross join v) on y")
        self.becomes("select x from t cross join (u join v on x)", "select x from t, u join v on x")
        self.becomes("select x from t join u on x cross join v", "select x from t join u on x, v",
                     "select x from (t join u on x) cross join v")
        self.becomes("select x from t cross join u cross join v", "select x from t, u, v",
                     "select x from (t cross join u), v")

    def test_bodies(self):
        q = "select x from t"
        for word in ("union", "except", "union all", "except all"):
            self.becomes(f"{q} {word} {q} except {q}", f"({q} {word} {q}) except ({q})", f"(({q}) {word} {q}) except {q}")
            self.stays(f"{q} {word} ({q} except {q})", f"{q} {word} {q} intersect {q}",
                       f"({q} {word} {q}) intersect {q}", f"{q} intersect ({q} {word} {q})")
            self.becomes(f"{q} {word} {q} intersect {q}", f"{q} {word} ({q} intersect {q})")
            self.becomes(f"{q} intersect {q} {word} {q}", f"({q} intersect {q}) {word} {q}")
        self.becomes(f"{q} intersect {q} intersect all {q}", f"({q} intersect {q}) intersect all {q}")
        self.stays(f"{q} intersect ({q} intersect all {q})")

    def test_orders(self):
        q = "select x from t"
        self.stays(f"{q} order by x", f"{q} order by x desc, y, z desc first 0", f"{q} union {q} order by x first 3",
                   f"({q} order by x) union {q}", f"{q} union ({q} order by x)", f"({q} order by x) intersect {q}",
                   f"{q} intersect ({q} order by x first 1)", f"({q} order by x) order by y")
        self.becomes(f"{q} order by x", f"({q}) order by x", f"({q} order by x)")
        self.becomes(f"{q} intersect {q} order by x", f"({q} intersect {q}) order by x")

    def test_questions_inside(self):
        self.stays("select x from (select x from t order by x first 1) as a",
                   "select one (select x from t union select x from u) as x from t",
                   "select x from (select * from t) as a join (select * from u) as b on a.x = b.x")


class Conditions(Forms):
    def test_chains(self):
        self.where("x and y and z", "(x) and (y) and ((z))")
        self.where("(x and y) and z")
        self.where("x and (y and z)")
        self.where("x or y or z")
        self.where("(x or y) or z")
        self.where("x or (y or z)")
        self.where("x and y or z", "(x and y) or z")
        self.where("(x or y) and z")
        self.where("x or y and z", "x or (y and z)")

    def test_not(self):
        self.where("not x", "not (x)")
        self.where("not not x", "not (not x)")
        self.where("not x and y", "(not x) and y")
        self.where("not (x and y)")
        self.where("not (x or y)")
        self.where("not x = y", "not (x = y)")
        self.where("(not x) = y")
        self.where("x = (not y)")
        self.where("not exists (select x from t)", "not (exists (select x from t))")
        self.where("not x = any (select x from t)")
        self.where("(not x) is null")

    def test_not_of_in_null_is(self):
        q = "(select x from t)"
        self.where(f"x not in {q}", f"not x in {q}", f"not (x in {q})")
        self.where(f"not x not in {q}", f"not not x in {q}")
        self.where("x is not null", "not x is null", "not (x is null)")
        self.where("not x is not null", "not not x is null")
        self.where("x is not y", "not x is y", "not (x is y)")
        self.where(f"(x not in {q}) = y", f"(not x in {q}) = y")
        self.where("(x is not null) is not null")
        self.where(f"x not in {q} and x is not null or x is not y")

    def test_tests_in_tests(self):
        q = "(select x from t)"
        for test in ("x = y", f"x in {q}", "x is null", "x is y", f"x >= all {q}", f"exists {q}", "x and y", "not x"):
            self.where(f"({test}) = y")
            self.where(f"x <> ({test})")
            self.where(f"({test}) is null")
            self.where(f"x is ({test})")
            self.where(f"({test}) in {q}")
            self.where(f"({test}) + x")
            self.where(f"({test}) < any {q}")

    def test_is_null(self):
        self.where("x is (null)")
        self.where("x is not (null)", "not x is (null)")
        self.where("x is (null + 1)", "x is (null) + 1")
        self.where("x is (null * 2 - y)", "x is (null) * 2 - y")
        self.where("x is nulls")
        self.where("x is nulls.y")
        self.where("x is 1 + null")
        self.where("x is (null = y)")
        self.where("null is null")
        self.where("null is (null)")
        self.where("null = null")
        self.where("x is 'null '")

    def test_questions(self):
        q = "(select x from t)"
        self.where(f"exists {q}", f"exists{q}", f"exists ({q})")
        self.where(f"x = any {q} and x <= all {q}", f"x=any{q} and x<=all{q}")
        self.where(f"x + 1 in {q}", f"(x + 1) in {q}")
        self.where(f"one {q} = 1", f"(one{q})=1")


class Expressions(Forms):
    def test_sums(self):
        self.where("x + y - z", "(x + y) - z")
        self.where("x - (y + z)")
        self.where("x + (y - z)")
        self.where("x + y * z", "x + (y * z)")
        self.where("(x + y) * z")
        self.where("x * (y - z)")
        self.where("x * y * z", "(x * y) * z")
        self.where("x * (y * z)")
        self.where("x + 1 = y * 2", "(x + 1) = (y * 2)")

    def test_minus(self):
        self.where("-3", "- 3", "-\n3", "(-3)")
        self.where("0 - x", "- x", "-(x)")
        self.where("0 - 3", "-(3)")
        self.where("0 - -3", "- - 3")
        self.where("0 - (0 - x)", "- - x")
        self.where("x - 3", "x-3", "x -3")
        self.where("x - -3", "x--3")
        self.where("-3 * -3", "(-3) * (-3)")
        self.where("(0 - x) * y", "-x * y")
        self.where("x * (0 - y)", "x * -y")
        self.where("x - (0 - y)", "x - -y")
        self.where("0 - x + y", "-x + y")
        self.where("x < -1")

    def test_values(self):
        self.where("''")
        self.where("'it''s'")
        self.where("''''")
        self.where(str(10 ** 39))
        self.where("-" + "9" * 40)
        self.where(":p = null", ":p=null")
        self.where("t.x = x", "t . x=x")

    def test_calls(self):
        self.where("coalesce(x, y + 1, null)", "coalesce ( x , (y + 1) , null )")
        self.where("count(*) = count(x)", "count ( * ) = count ( (x) )")
        self.where("count(distinct x + y)", "count ( distinct (x + y) )")
        self.where("sum(x) + least(y) * most(x or y)", "sum ( x ) + least ( y ) * most ( (x or y) )")

    def test_case(self):
        self.where("case when x then y end", "case when x then y else null end", "case when (x) then (y) else (null) end")
        self.where("case when x or y then not z when x and y then 1 else x = y end")
        self.where("case when x then y end + 1")
        self.where("case when case when x then y end then z end")
        self.where("case when x then y else null + 1 end")


class Trees(unittest.TestCase):
    def test_from_trees(self):
        for tree, text in (
            (PLAIN, "select x from t"),
            (("select", True, None, ("table", "t", "u"), None, (), None), "select distinct * from t as u group by ()"),
            (("union", True, PLAIN, ("union", False, PLAIN, PLAIN)),
             "select x from t union all (select x from t union select x from t)"),
            (("first", PLAIN, (("x", True),), 5), "select x from t order by x desc first 5"),
            (("select", False, ((X, "y"), (("column", "t", "x"), "x")), ("join", "full", T, T, ("=", X, Y)), None, None,
              None), "select x as y, t.x from t full join t on x = y"),
        ):
            self.assertEqual(text, write_question(tree))
            self.assertEqual(tree, read_question(text))

    def test_long_chains(self):
        chain = X
        for _ in range(150):
            chain = ("+", chain, Y)
        nots = X
        for _ in range(150):
            nots = ("not", nots)
        body = PLAIN
        for _ in range(150):
            body = ("except", False, body, PLAIN)
        joins = T
        for _ in range(150):
            joins = ("join", "cross", joins, T, None)
        for tree in (PLAIN[:4] + (chain, None, None), PLAIN[:4] + (nots, None, None), body,
                     PLAIN[:3] + (joins, None, None, None)):
            self.assertEqual(tree, read_question(write_question(tree)))


if __name__ == "__main__":
    unittest.main()
