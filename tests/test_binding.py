"""What bind gives: places, items, keys, groups, names and kinds [24 to 27]."""

import unittest

from innerasks.binding import bind
from innerasks.reader import read_question
from samples import ASKED


def at(up, place):
    return ("at", up, place)


def bound(text):
    return bind(ASKED, read_question(text))[0]


def columns(text):
    return bind(ASKED, read_question(text))[1]


def items(text):
    """The bound expressions of the items."""
    return [e for e, _ in bound(text)[2]]


def where(text):
    """The bound condition behind where of the whole question."""
    return bound(text)[4]


class Results(unittest.TestCase):
    def test_a_tuple(self):
        self.assertEqual(
            (("select", False, ((at(0, 1), "y"), (at(0, 0), "n")), ("table", "t", "t"), ("=", at(0, 2), ("value", "a")),
              None, None), (("y", "whole"), ("n", "whole"))),
            bind(ASKED, read_question("select y, x as n from t where s = 'a'")),
        )

    def test_all_that_has_no_names_stays(self):
        text = ("select distinct 1 as a, null as b, 'x' as c, :p as d from t where exists (select * from v) and 1 is null "
                "union all select 1 as q, 2 as r, 's' as z, 3 as u from u order by a, d desc first 3")
        question = read_question(text)
        tree = bind(ASKED, question)[0]
        self.assertEqual(("first", ((0, False), (3, True)), 3), (tree[0], tree[2], tree[3]))
        self.assertEqual(question[1][3], tree[1][3])
        self.assertEqual(question[1][2][2], tree[1][2][2])
        self.assertEqual(("union", True), tree[1][:2])
        self.assertEqual(("null", ("value", 1)), tree[1][2][4][1][1])

    def test_what_is_passed_stays(self):
        question = read_question("select * from t, v where x = w group by x, y, s, w order by x")
        again = read_question("select * from t, v where x = w group by x, y, s, w order by x")
        self.assertEqual(bind(ASKED, question), bind(ASKED, question))
        self.assertEqual(again, question)


class Places(unittest.TestCase):
    def test_all_sources_in_order(self):
        self.assertEqual([at(0, 0), at(0, 2), at(0, 3), at(0, 4), at(0, 5)],
                         items("select t.x, s, u.x as b, z, w from t, u, v"))
        self.assertEqual([at(0, 3), at(0, 0), at(0, 2), at(0, 5)], items("select t.x, w, z, s from v, u, t"))
        self.assertEqual([at(0, 2), at(0, 5)], items("select b.x, w from u as a cross join u as b "
                                                     "cross join (select x, w from v, u) as c"))

    def test_sources_in_parentheses(self):
        self.assertEqual([at(0, 0), at(0, 1), at(0, 3)],
                         items("select w, u.x, t.x as b from v cross join (u cross join t)"))

    def test_conditions_of_joins(self):
        tree = bound("select w from v join (u join t on u.x = t.x) on w = t.y join u as a on a.x = w")[3]
        self.assertEqual(("=", at(0, 6), at(0, 0)), tree[4])
        self.assertEqual(("=", at(0, 0), at(0, 4)), tree[2][4])
        self.assertEqual(("=", at(0, 1), at(0, 3)), tree[2][3][4])

    def test_forms_of_sources(self):
        for kind in ("left", "full"):
            self.assertEqual(("join", kind, ("table", "v", "v"), ("table", "t", "a"), ("=", at(0, 0), at(0, 1))),
                             bound(f"select w from v {kind} join t as a on w = x")[3])
        self.assertEqual(("join", "cross", ("table", "v", "v"), ("table", "t", "a"), None),
                         bound("select w from v, t as a")[3])

    def test_a_join_behind_a_comma(self):
        tree = bound("select w from v, u join t on u.x = y")[3]
        self.assertEqual(("join", "cross", None), (tree[0], tree[1], tree[4]))
        self.assertEqual(("=", at(0, 1), at(0, 4)), tree[3][4])

    def test_questions_in_from(self):
        tree = bound("select n, x from (select y as n, x from t) as a where a.n = 1")
        self.assertEqual(("question", bound("select y as n, x from t"), "a"), tree[3])
        self.assertEqual(((at(0, 0), "n"), (at(0, 1), "x")), tree[2])
        self.assertEqual(("=", at(0, 0), ("value", 1)), tree[4])

    def test_names_of_a_union_are_those_of_the_left_part(self):
        self.assertEqual([at(0, 1)], items("select b from (select 1 as a, 2 as b from t union select x, y from t) as q"))

    def test_columns_of_the_select_around(self):
        tree = where("select x from t where exists (select w from v where w = x)")
        self.assertEqual(("=", at(0, 0), at(1, 0)), tree[1][4])

    def test_the_nearest_select_comes_first(self):
        tree = where("select x from t where exists (select x from u where x = t.x and y = 1)")
        self.assertEqual(("and", (("=", at(0, 0), at(1, 0)), ("=", at(1, 1), ("value", 1)))), tree[1][4])
        self.assertEqual(((at(0, 0), "x"),), tree[1][2])

    def test_the_nearest_alias_comes_first(self):
        tree = where("select a.x from v as b, t as a where a.y in (select a.x from u as a)")
        self.assertEqual(("in", at(0, 2)), tree[:2])
        self.assertEqual(((at(0, 0), "x"),), tree[2][2])

    def test_three_selects(self):
        tree = where("select w from v where exists (select x from u where exists (select y from t where y = w and x = u.x))")
        self.assertEqual(("and", (("=", at(0, 1), at(2, 0)), ("=", at(0, 0), at(1, 0)))), tree[1][4][1][4])

    def test_a_question_in_from_sees_what_is_outside(self):
        tree = where("select w from v where exists (select q.n from (select x as n from u where x = w) as q where q.n = w)")
        self.assertEqual(("=", at(0, 0), at(1, 0)), tree[1][4])
        # The rows of the select between them are not seen: it is one select outwards, too.
        self.assertEqual(("=", at(0, 0), at(1, 0)), tree[1][3][1][4])

    def test_a_question_in_from_of_a_question_in_from(self):
        text = ("select w from v where w in (select n from (select m as n from (select x + w as m from u) as b) as a)")
        self.assertEqual(("+", at(0, 0), at(1, 0)), where(text)[2][3][1][3][1][2][0][0])

    def test_a_question_in_a_condition_of_a_join(self):
        tree = bound("select w from v join u on exists (select y from t where y = w and s = z), t as q")[3]
        self.assertEqual(("and", (("=", at(0, 1), at(1, 0)), ("=", at(0, 2), at(1, 2)))), tree[2][4][1][4])

    def test_a_condition_of_a_join_sees_its_parts_and_further_out(self):
        text = "select w from v where exists (select 1 as n from t, u join u as b on u.x = b.x and w = 1)"
        self.assertEqual(("and", (("=", at(0, 3), at(0, 5)), ("=", at(1, 0), ("value", 1)))), where(text)[1][3][3][4])
        # y is a column of t, but t is no part of this join: the y that is seen is that of the select around.
        text = "select y from t where exists (select 1 as n from t as a, u join v on y = 1)"
        self.assertEqual(("=", at(1, 1), ("value", 1)), where(text)[1][3][3][4])

    def test_every_form_of_expression(self):
        self.assertEqual(
            ("case", ((("null", at(0, 0)), ("coalesce", (at(0, 1), ("value", 1)))),), ("-", ("value", 0), at(0, 0))),
            items("select case when x is null then coalesce(y, 1) else - x end as n from t")[0],
        )
        one = bound("select w from v")
        self.assertEqual(
            ("or", (("any", "<", at(0, 0), one), ("all", "=", at(0, 1), one), ("not", ("in", at(0, 0), one)),
                    ("is", at(0, 2), ("param", "p")), ("<>", ("one", one), at(0, 0)))),
            where("select x from t where x < any (select w from v) or y = all (select w from v) or x not in "
                  "(select w from v) or s is :p or one (select w from v) <> x"),
        )


class Items(unittest.TestCase):
    def test_all_columns(self):
        self.assertEqual(((at(0, 0), "x"), (at(0, 1), "y"), (at(0, 2), "s")), bound("select * from t")[2])
        self.assertEqual((("w", "whole"), ("x", "whole"), ("z", "text")), columns("select * from v, u"))
        self.assertEqual([at(0, 0), at(0, 1), at(0, 2), at(0, 3)],
                         items("select * from v join (select x as a, y as b, s as c from t) as q on w = a"))

    def test_all_columns_of_a_question(self):
        self.assertEqual((("a", "whole"), ("b", "text")),
                         columns("select * from (select x as a, s as b from t union select 1 as q, z from u) as r"))

    def test_names(self):
        self.assertEqual((("x", "whole"), ("n", "whole"), ("s", "text"), ("b", "text")),
                         columns("select t.x, y as n, s, s as b from t"))

    def test_keys(self):
        self.assertEqual(("first", bound("select x, y as n, s from t"), ((2, True), (1, False)), None),
                         bound("select x, y as n, s from t order by s desc, n"))
        self.assertEqual(((1, False),), bound("select 1 as a, 2 as b from t union select x, y from t order by b")[2])
        self.assertEqual(((0, True),), bound("select * from v order by w desc first 0")[2])

    def test_keys_of_inner_questions(self):
        tree = where("select x from t where x in (select w from v order by w first 1)")
        self.assertEqual(("first", bound("select w from v"), ((0, False),), 1), tree[2])


class Groups(unittest.TestCase):
    def test_group_by(self):
        tree = bound("select s, count(x) as n from t group by s, t.y having sum(y) > y")
        self.assertEqual((at(0, 2), at(0, 1)), tree[5])
        self.assertEqual((">", ("sum", at(0, 1)), at(0, 1)), tree[6])
        self.assertEqual((("count", at(0, 0), False), "n"), tree[2][1])

    def test_group_by_nothing(self):
        self.assertEqual((), bound("select 1 as n from t group by ()")[5])

    def test_without_group_by(self):
        self.assertIsNone(bound("select x from t")[5])
        for text in ("select count(*) as n from t", "select 1 as n from t having 1 = 1",
                     "select 1 + sum(x) as n from t", "select coalesce(1, case when most(s) = 'a' then 1 end) as n from t",
                     "select 1 as n from t having least(x) is null",
                     "select 1 as m, 2 as n from t having count(*) = any (select w from v)"):
            self.assertEqual((), bound(text)[5], text)

    def test_aggregates_of_inner_questions_do_not_group(self):
        self.assertIsNone(bound("select one (select count(*) as n from v) as m from t")[5])
        self.assertIsNone(bound("select x from (select count(*) as x from v) as t")[5])

    def test_aggregates_of_outer_columns_belong_where_they_stand(self):
        tree = bound("select one (select sum(x) as n from v) as m from t")
        self.assertIsNone(tree[5])
        self.assertEqual(((("sum", at(1, 0)), "n"),), tree[2][0][0][1][2])
        self.assertEqual((), tree[2][0][0][1][5])

    def test_groups_in_questions_inside(self):
        tree = bound("select y, one (select sum(w) as a from v where w = y) as n from t group by y")
        self.assertEqual(("=", at(0, 0), at(1, 1)), tree[2][1][0][1][4])
        tree = bound("select 1 as n from t group by y having y in (select w from v where w = t.y)")
        self.assertEqual(("=", at(0, 0), at(1, 1)), tree[6][2][4])

    def test_all_columns_in_aggregates(self):
        tree = bound("select sum(x + y) as n, count(distinct s) as m from t group by y")
        self.assertEqual(("sum", ("+", at(0, 0), at(0, 1))), tree[2][0][0])
        self.assertEqual(("count", at(0, 2), True), tree[2][1][0])

    def test_all_columns_in_questions_in_aggregates(self):
        tree = bound("select sum(one (select sum(w + x) as a from v)) as n from t group by y")
        self.assertEqual(("sum", ("+", at(0, 0), at(1, 0))), tree[2][0][0][1][1][2][0][0])

    def test_all_columns_behind_where_and_on(self):
        tree = bound("select 1 as n from t join u on t.x = u.x where t.x = y group by y")
        self.assertEqual(("=", at(0, 0), at(0, 1)), tree[4])
        self.assertEqual(("=", at(0, 0), at(0, 3)), tree[3][4])

    def test_star(self):
        self.assertEqual(((at(0, 0), "w"),), bound("select * from v group by w")[2])

    def test_outer_columns_need_no_group(self):
        tree = where("select x from t where y in (select count(*) + y as n from v group by w)")
        self.assertEqual(("+", ("count", None, False), at(1, 1)), tree[2][2][0][0])


class Kinds(unittest.TestCase):
    def check(self, kinds, text):
        self.assertEqual(tuple(kinds.split()), tuple(kind for _, kind in columns(text)), text)

    def item(self, kind, text):
        self.check(kind, f"select {text} as n from t")

    def test_items(self):
        for text in ("1", "-1", "x", "x + y", "x * null", "x - :p", "count(*)", "count(s)", "count(x)", "count(null)",
                     "sum(x)", "sum(:p)", "sum(null)", "least(x)", "most(x + 1)", "coalesce(x, null)",
                     "case when x = 1 then null else x end", "one (select w from v)", "case when x = 1 then y end"):
            self.item("whole", text)
        for text in ("'a'", "s", "least(s)", "most('a')", "coalesce(null, s)", "coalesce(:p, 'a')",
                     "case when x = 1 then null when y = 1 then s end", "one (select z from u)"):
            self.item("text", text)

    def test_open_items_of_the_whole_question(self):
        for text in ("null", ":p", "coalesce(null, :p)", "case when 1 = 1 then null end", "one (select null as a from t)",
                     "least(null)", "most(:p)", "one (select coalesce(null) as a from t)"):
            self.item("whole", text)

    def test_open_items_of_questions_in_from(self):
        self.check("whole text", "select x + 1 as a, 'b' as b from (select null as x from t) as q")
        self.check("whole", "select * from (select :p as x from t) as q")
        self.check("text", "select * from (select :p as x from t union select s from t) as q")

    def test_open_items_fit_both(self):
        for text in ("null = 'a'", "null = 1", ":p < s", "x < :p", ":p = null", "s in (select null as a from t)",
                     "x = any (select :p as a from t)", "null = all (select z from u)", "null is null",
                     "one (select null as a from v) = 'a'", "one (select null as a from v) = 1",
                     "coalesce(null, :p) = s", "coalesce(null, :p) = x", "case when x = 1 then :p end is s",
                     ":p in (select w from v)", ":p in (select z from u)", "null + 1 = x", ":p * :p = 1"):
            self.check("whole", f"select x from t where {text}")

    def test_open_parts(self):
        self.check("text whole", "select null as a, 1 as b from t union select z, null as y from u")
        self.check("text", "select z from u except select null as a from t")
        self.check("whole", "select null as a from u intersect select :p as a from t")
        self.check("text", "select null as a from u union (select null as b from t union all select z from u)")
        self.check("text", "(select null as a from u union select :p as b from t) intersect select z from u")
        self.check("text", "select null as a from t union select z from u order by a first 1")

    def test_parameters_may_stand_for_both(self):
        self.check("whole", "select x from t where :p = x and :p = s")


if __name__ == "__main__":
    unittest.main()
