"""The plain meaning of questions [30 to 36], but for what is Several, and for parameters."""

import unittest

from innerasks.databases import Database
from innerasks.plain import answer
from asking import BASE, EMPTY, T, U, V, ask, bound, truth_of, worth_of
from samples import ASKED


class Expressions(unittest.TestCase):
    def test_values_and_sums(self):
        for text, value in [
            ("3", 3), ("-3", -3), ("'it''s'", "it's"), ("null", None), ("1 + 2 * 3", 7), ("(1 + 2) * 3", 9),
            ("7 - 2 - 1", 4), ("-w", -1), ("1 + null", None), ("null * 2", None), ("null - null", None),
            (f"{'9' * 40} + 1", 10 ** 40),
        ]:
            self.assertEqual(value, worth_of(text), text)

    def test_case_takes_the_first_that_is_true(self):
        for text, value in [
            ("case when 1 = 1 then 1 when 1 = 1 then 2 else 3 end", 1),
            ("case when 1 = 2 then 1 when 2 = 2 then 2 else 3 end", 2),
            ("case when null = 1 then 1 else 3 end", 3), ("case when 1 = 2 then 1 end", None),
            ("case when 1 = 1 then null else 3 end", None),
        ]:
            self.assertEqual(value, worth_of(text), text)

    def test_coalesce(self):
        for text, value in [
            ("coalesce(null, null, 2, 1)", 2), ("coalesce(0, 1)", 0), ("coalesce('', 'a')", ""),
            ("coalesce(null, null)", None), ("coalesce(null)", None),
        ]:
            self.assertEqual(value, worth_of(text), text)

    def test_one(self):
        self.assertIsNone(worth_of("one (select x from u where x = 5)"))
        self.assertEqual(2, worth_of("one (select x from u where x = 2)"))
        self.assertIsNone(worth_of("one (select z from u where x = 2)"))
        self.assertEqual(4, worth_of("one (select count(*) as n from u)"))


class Conditions(unittest.TestCase):
    def test_comparisons(self):
        for sign, truths in [
            ("=", (False, True, False)), ("<>", (True, False, True)), ("<", (True, False, False)),
            ("<=", (True, True, False)), (">", (False, False, True)), (">=", (False, True, True)),
        ]:
            self.assertEqual(truths, tuple(truth_of(f"{x} {sign} 2") for x in (1, 2, 3)))
            self.assertIs(None, truth_of(f"null {sign} 2"))
            self.assertIs(None, truth_of(f"2 {sign} null"))
            self.assertIs(None, truth_of(f"null {sign} null"))
        self.assertIs(True, truth_of("'a' < 'b'"))
        self.assertIs(True, truth_of("'B' < 'a'"))
        self.assertIs(True, truth_of("'' < 'a'"))

    def test_is_and_null(self):
        for text, truth in [
            ("1 is 1", True), ("1 is 2", False), ("1 is (null)", False), ("(null) is (null)", True),
            ("1 is not 1", False), ("1 is not (null + 1)", True), ("1 is null", False), ("null is null", True),
            ("1 + null is null", True), ("1 is not null", True), ("null is not null", False),
        ]:
            self.assertIs(truth, truth_of(text), text)

    def test_not_and_or(self):
        yes, no, unknown = "1 = 1", "1 = 2", "null = 1"
        truths = {yes: True, no: False, unknown: None}
        for one in truths:
            self.assertIs({True: False, False: True, None: None}[truths[one]], truth_of(f"not {one}"))
            for other in truths:
                told = (truths[one], truths[other])
                both = False if False in told else None if None in told else True
                either = True if True in told else None if None in told else False
                self.assertIs(both, truth_of(f"{one} and {other}"))
                self.assertIs(either, truth_of(f"{one} or {other}"))
        self.assertIs(False, truth_of(f"{yes} and {unknown} and {no}"))
        self.assertIs(True, truth_of(f"{no} or {unknown} or {yes}"))

    def test_exists(self):
        self.assertIs(True, truth_of("exists (select * from u)"))
        self.assertIs(True, truth_of("exists (select null as k from u where x = 2)"))
        self.assertIs(False, truth_of("exists (select * from u where x = 5)"))
        self.assertIs(True, truth_of("exists (select count(*) as n from u where x = 5)"))

    def test_in(self):
        for text, truth in [
            ("1 in (select x from u)", True), ("5 in (select x from u)", None),
            ("5 in (select x from u where x is not null)", False), ("null in (select x from u)", None),
            ("null in (select x from u where x = 5)", False), ("1 not in (select x from u)", False),
            ("5 not in (select x from u)", None), ("5 not in (select x from u where x is not null)", True),
            ("null not in (select x from u where x = 5)", True), ("null not in (select x from u)", None),
        ]:
            self.assertIs(truth, truth_of(text), text)

    def test_any_and_all(self):
        known = "(select x from u where x is not null)"
        nothing = "(select x from u where x = 5)"
        for text, truth in [
            (f"2 > any {known}", True), (f"1 > any {known}", False), ("1 > any (select x from u)", None),
            ("2 > any (select x from u)", True), (f"1 > any {nothing}", False), (f"null > any {nothing}", False),
            (f"null > any {known}", None), (f"3 > all {known}", True), (f"2 > all {known}", False),
            ("3 > all (select x from u)", None), ("2 > all (select x from u)", False), (f"1 > all {nothing}", True),
            (f"null > all {nothing}", True), (f"null > all {known}", None), (f"1 <> all {known}", False),
            (f"1 = any {known}", True), (f"1 <= all {known}", True), (f"not 1 <> all {known}", True),
        ]:
            self.assertIs(truth, truth_of(text), text)


class Sources(unittest.TestCase):
    def test_a_table(self):
        self.assertEqual([(None, 30, None), (1, 10, "a"), (1, 10, "a"), (2, None, "b")], ask("select * from t"))
        self.assertEqual([], ask("select * from t", EMPTY))
        self.assertEqual([(None,), ("a",), ("a",), ("b",)], ask("select s from t"))

    def test_a_question(self):
        self.assertEqual([(2, 11), (2, 11)], ask("select k + 1 as k, y + 1 as y from (select x as k, y from t) as a "
                                                 "where k = 1"))
        self.assertEqual([(1,), (1,)], ask("select x from (select * from t order by y first 3) as a where x = 1"))
        self.assertEqual([(3,)], ask("select count(*) as n from (select distinct x, y from t) as a"))

    def test_cross(self):
        rows = [(w, x) for w in (None, 1, 2) for x in (None, 1, 1, 2)]
        self.assertEqual(rows, ask("select w, x from v, u"))
        self.assertEqual(rows, ask("select w, x from v cross join u"))
        self.assertEqual([], ask("select w, x from v, u where x = 5"))
        self.assertEqual([], ask("select w, x from v cross join t", Database(ASKED, {"v": V})))

    def test_inner(self):
        self.assertEqual([(1, "a"), (1, "b"), (2, None)], ask("select w, z from v join u on w = x"))
        self.assertEqual([(None, "a"), (1, "a"), (1, "b"), (2, None)], ask("select w, z from v join u on w is x"))
        self.assertEqual([(1, "a"), (1, "a"), (1, "b"), (1, "b")],
                         ask("select a.x, z from t as a inner join u on a.x = u.x where a.x = 1"))
        self.assertEqual([], ask("select w, z from v join u on null = x"))

    def test_left(self):
        self.assertEqual([(None, None), (1, "a"), (1, "b"), (2, None)], ask("select w, z from v left join u on w = x"))
        self.assertEqual([(None, None, None), (1, None, None), (2, None, None)],
                         ask("select * from v left join u on x = w + 5"))
        # Rows that are alike stay alike, whether they are in a pair or not.
        self.assertEqual([(None, None), (1, None), (1, None), (2, 2)],
                         ask("select x, w from t left join v on w = x and w > 1"))
        self.assertEqual([(None, None)], ask("select w, x from v left join u on w = x", Database(ASKED, {"v": [(None,)]})))

    def test_full(self):
        base = Database(ASKED, {"v": [(1,), (3,), (3,), (None,)], "u": [(1, "a"), (1, "a"), (2, "b"), (2, "b")]})
        rows = [(None, None, None), (None, 2, "b"), (None, 2, "b"), (1, 1, "a"), (1, 1, "a"), (3, None, None),
                (3, None, None)]
        self.assertEqual(rows, ask("select * from v full join u on w = x", base))
        self.assertEqual([(None, None, None), (1, None, None)],
                         ask("select * from v full join u on w = x", Database(ASKED, {"v": [(1,), (None,)]})))
        self.assertEqual([(None, 1, "a")],
                         ask("select * from v full join u on w = x", Database(ASKED, {"u": [(1, "a")]})))

    def test_questions_in_outer_joins(self):
        for question, rows in [
            ("(select x, z from u where x = 2)", [(None, None, None), (1, None, None), (2, 2, None)]),
            ("(select x, z from u order by x desc first 1)", [(None, None, None), (1, None, None), (2, 2, None)]),
            ("((select x, z from u where x = 2) union all (select x, s from t where x = 5 order by x))",
             [(None, None, None), (1, None, None), (2, 2, None)]),
        ]:
            self.assertEqual(rows, ask(f"select w, a.x, z from v left join {question} as a on a.x = w"))
            self.assertEqual([row[1:] + row[:1] for row in rows],
                             ask(f"select a.x, z, w from {question} as a full join v on a.x = w"))
            self.assertEqual([(w, 1) for w, _, _ in rows], ask(
                f"select w, count(*) as n from (v left join {question} as a on a.x = w) left join t on z = 'q' and t.x = w group by w"))

    def test_joins_of_joins(self):
        self.assertEqual([(None, None, None), (1, "a", 1), (1, "b", 1), (2, None, 2)],
                         ask("select a.w, z, b.w as k from (v as a left join u on a.w = x) left join v as b on b.w = x"))
        self.assertEqual([(None, None, None), (1, "a", 1), (1, "b", 1), (2, None, None)],
                         ask("select a.w, z, b.w as k from v as a left join (u join v as b on b.w = x and z >= 'a') "
                             "on a.w = x"))
        # The condition of the join on the right sees the columns of its own parts, behind those of the first source.
        self.assertEqual([(1, 10, 1)], ask("select distinct t.x, y, w from t, u left join v on w = u.x "
                                           "where t.x = w and u.z = 'a'"))

    def test_a_question_in_from_is_asked_in_the_surroundings_of_the_select(self):
        self.assertEqual([(None, 0), (1, 2), (2, 1)],
                         ask("select w, one (select count(*) as n from (select x from u where x = w) as a) as k from v"))


class Correlated(unittest.TestCase):
    def test_in_items_and_where(self):
        self.assertEqual([(None, 0), (1, 2), (2, 1)],
                         ask("select w, one (select count(*) as n from u where x = w) as k from v"))
        self.assertEqual([(1,), (2,)], ask("select w from v where exists (select * from u where x = w)"))
        self.assertEqual([(1,)], ask("select w from v where exists (select * from u where x = w and z = 'b')"))

    def test_two_selects_outwards(self):
        self.assertEqual([(1,)], ask("select w from v where exists (select * from u where x = w and exists "
                                     "(select * from t where t.s = u.z and t.x = v.w))"))
        self.assertEqual([(None, 0), (1, 1), (2, 1)], ask(
            "select w, one (select count(*) as n from u where x = w and coalesce(z, 'b') in "
            "(select s from t where t.x = v.w)) as k from v"))

    def test_in_having(self):
        self.assertEqual([(None,), (1,)], ask("select x from u group by x having count(*) > one "
                                     "(select count(*) as n from v where v.w = u.x)"))
        self.assertEqual([(2,)], ask("select x from u group by x having x in (select w from v where w > 1)"))

    def test_in_conditions_of_joins(self):
        self.assertEqual([(None, None), (1, "a"), (2, None)], ask(
            "select w, z from v left join u on x = w and exists (select * from t where t.x = v.w and t.s = u.z)"))
        self.assertEqual([(None, None), (None, "a"), (1, "a"), (1, "b"), (2, None)], ask(
            "select w, z from v full join u on x in (select t.x from t where t.x = v.w)"))
        self.assertEqual([(1, "a"), (1, "b")], ask(
            "select w, z from v join u on one (select count(*) as n from t where t.x = u.x and t.x = v.w) = 2"))
        self.assertEqual([(1, 1, "a"), (2, 2, "b")], ask(
            "select distinct w, x, z from v, (select x from t) as a join (select z from u) as b on "
            "z = one (select least(s) as k from t where t.x = a.x) where x = w"))

    def test_in_aggregates(self):
        self.assertEqual([(3,)], ask("select sum(one (select count(*) as n from u where x = w)) as k from v"))
        self.assertEqual([(2,)], ask("select count(case when exists (select * from u where x = w) then 1 end) as k from v"))
        self.assertEqual([(None, 0), (1, 3), (2, 1)], ask(
            "select w, one (select count(t.x) as n from t where t.x = v.w or v.w = 1 and t.x = 2) as k from v"))
        self.assertEqual([(None, 0), (1, 12), (2, 2)], ask(
            "select x, sum(one (select count(*) as n from v where v.w = u.x) * "
            "case when z = 'b' then 2 * u.x * 5 else 2 end) as k from u group by x"))

    def test_groups_are_seen_within(self):
        self.assertEqual([(None, 1), (1, 3), (2, 2)], ask(
            "select x, one (select count(*) as n from v where w = u.x) + count(*) as k from u group by x"))

    def test_columns_of_the_select_around_in_groups(self):
        self.assertEqual([(None, None), (1, 3), (2, 3)],
                         ask("select w, one (select v.w + count(*) as n from u where x = v.w) as k from v"))
        self.assertEqual([(None, None), (1, 2), (2, None)],
                         ask("select w, one (select count(*) as n from u group by x having x = v.w and v.w < 2) as k from v"))

    def test_aggregates_of_the_select_around(self):
        # An aggregate belongs to the select in which it stands, whatever it uses.
        self.assertEqual([(None, None), (1, 3), (2, 6)],
                         ask("select w, one (select sum(v.w) as k from v as a) as k from v"))


class Groups(unittest.TestCase):
    def test_lots(self):
        self.assertEqual([(None, 1), (1, 2), (2, 1)], ask("select x, count(*) as n from t group by x"))
        self.assertEqual([(None, 30, 1), (1, 10, 2), (2, None, 1)],
                         ask("select x, y, count(*) as n from t group by x, y"))
        self.assertEqual([(None,), ("a",), ("b",)], ask("select s from t group by s"))
        self.assertEqual([], ask("select x, count(*) as n from t group by x", EMPTY))
        self.assertEqual([(1,), (1,)], ask("select case when x is null then 1 else 1 end as k from v join u on w = x "
                                           "group by x"))

    def test_each_aggregate(self):
        for text, value in [
            ("count(*)", 4), ("count(x)", 3), ("count(distinct x)", 2), ("count(distinct y)", 2), ("count(y)", 3),
            ("sum(x)", 4), ("sum(y)", 50), ("least(x)", 1), ("most(x)", 2), ("least(s)", "a"), ("most(s)", "b"),
            ("count(s)", 3), ("count(distinct s)", 2), ("count(null)", 0), ("sum(null)", None), ("least(null)", None),
            ("sum(x) + count(*)", 8), ("count(1)", 4), ("count(distinct 1)", 1),
        ]:
            self.assertEqual([(value,)], ask(f"select {text} as k from t"), text)

    def test_without_rows(self):
        self.assertEqual([(0, 0, None, None, None)], ask(
            "select count(*) as a, count(x) as b, sum(x) as c, least(x) as d, most(s) as e from t", EMPTY))
        self.assertEqual([(5,)], ask("select 5 as k from t group by ()", EMPTY))
        self.assertEqual([(5,)], ask("select 5 as k from t having count(*) = 0", EMPTY))
        self.assertEqual([], ask("select 5 as k from t having count(*) > 0", EMPTY))
        self.assertEqual([(0,)], ask("select count(*) as n from t where x = 7"))
        self.assertEqual([(5,)], ask("select 5 as k from t group by ()"))

    def test_having(self):
        self.assertEqual([(1,)], ask("select x from t group by x having count(*) = 2"))
        self.assertEqual([(2,)], ask("select x from t group by x having sum(y) is null"))
        # Unknown is not True.
        self.assertEqual([(None,), (1,)], ask("select x from t group by x having sum(y) > 1"))

    def test_distinct(self):
        self.assertEqual([(None,), (1,), (2,)], ask("select distinct x from t"))
        self.assertEqual([(0,), (1,)], ask("select distinct case when x = 1 then 1 else 0 end as k from t"))
        self.assertEqual([(1,), (2,)], ask("select distinct count(*) as n from t group by x"))


class Combined(unittest.TestCase):
    def test_each(self):
        for words, rows in [
            ("union all", [None, None, 1, 1, 1, 1, 2, 2]), ("union", [None, 1, 2]), ("except all", []), ("except", []),
            ("intersect all", [None, 1, 1, 2]), ("intersect", [None, 1, 2]),
        ]:
            self.assertEqual([(x,) for x in rows], ask(f"select x from t {words} select x from u"), words)
        for words, rows in [
            ("union all", [None, None, 1, 1, 1, 2, 2]), ("union", [None, 1, 2]), ("except all", [1]), ("except", []),
            ("intersect all", [None, 1, 2]), ("intersect", [None, 1, 2]),
        ]:
            self.assertEqual([(x,) for x in rows], ask(f"select x from t {words} select w from v"), words)
        self.assertEqual([(None,)], ask("select w from v except select x from t where x > 0"))
        self.assertEqual([(1,), (2,)], ask("select w from v except all select x from u where x is null"))
        self.assertEqual([(1,)], ask("select x from t except select w from v where w = 2 or w is null"))
        self.assertEqual([(1,), (1,)], ask("select x from t except all select w from v where w = 2 or w is null"))

    def test_nested(self):
        self.assertEqual([(None,), (1,)], ask("select x from t union select x from u except select w from v where w = 2"))
        self.assertEqual([(None,), (1,), (1,), (1,), (2,)],
                         ask("select x from t union all select x from u intersect all select w from v where w = 1"))
        self.assertEqual([(1,)], ask("(select x from t union all select x from u) intersect select w from v where w = 1"))
        self.assertEqual([(None, "a"), (1, "a"), (1, "b")],
                         ask("select x, z from u except all (select w, null as k from v where w = 2)"))
        self.assertEqual([(None,), (2,)], ask("select null as k from v where w = 1 union select x from t where x = 2"))

    def test_in_a_question(self):
        self.assertEqual([(1,), (2,)], ask("select w from v where w in (select x from t where x = w union "
                                           "select x from u where x = w)"))


class Orders(unittest.TestCase):
    def test_up_and_down(self):
        self.assertEqual([(2, None), (1, 10), (1, 10), (None, 30)],
                         ask("select x, y from t order by y"))
        self.assertEqual([(None, 30), (1, 10), (1, 10), (2, None)], ask("select x, y from t order by y desc"))
        self.assertEqual([("b",), ("a",), ("a",), (None,)], ask("select s from t order by s desc"))
        self.assertEqual([(None,), (1,), (1,), (2,)], ask("select x from u order by x"))

    def test_several_keys(self):
        self.assertEqual([("b", 1), ("a", 1), ("a", None), (None, 2)], ask("select z, x from u order by z desc, x desc"))
        self.assertEqual([(2, None), (1, "a"), (1, "b"), (None, "a")], ask("select x, z from u order by x desc, z"))
        self.assertEqual([(None, 2), ("a", 1), ("a", None), ("b", 1)], ask("select z, x from u order by z, x desc"))
        self.assertEqual([(1, "b"), (1, "a"), (None, "a"), (2, None)], ask("select x, z from u order by z desc, x desc"))

    def test_alike_in_all_keys(self):
        self.assertEqual([(2, None), (1, "a"), (1, "b"), (None, "a")], ask("select x, z from u order by x desc"))
        self.assertEqual([(1, "b"), (None, "a"), (1, "a"), (2, None)], ask("select x, z from u order by z desc"))
        self.assertEqual([(9, "x", "a"), (9, "x", "b")],
                         ask("select 9 as a, 'x' as b, z from u where x = 1 order by a, b desc"))

    def test_first(self):
        rows = [(2,), (1,), (1,), (None,)]
        for many in range(6):
            self.assertEqual(rows[:many], ask(f"select x from t order by x desc first {many}"))
        self.assertEqual(rows, ask(f"select x from t order by x desc first {'9' * 40}"))
        self.assertEqual([(1, "a")], ask("select x, z from u where x = 1 order by x first 1"))

    def test_within_a_question(self):
        self.assertEqual([(1,), (1,)], ask("select x from t where x in (select x from u order by x first 2)"))
        self.assertEqual([(None, None), (1, "b"), (2, None)], ask(
            "select w, one (select z from u where x = w order by z desc first 1) as k from v"))
        self.assertEqual([(1,), (2,)], ask("(select x from u order by x desc first 2) union select 1 as x from v"))
        self.assertEqual([(2,), (1,)], ask("(select x from u order by x desc first 2) order by x desc first 5"))

    def test_all_other_answers_have_the_order_of_rows(self):
        base = Database(ASKED, {"t": [(2, 1, ""), (-1, 1, "b"), (None, 1, "a"), (-1, None, "a"), (10, 0, "a")]})
        self.assertEqual([(None, "a"), (-1, "a"), (-1, "b"), (2, ""), (10, "a")], ask("select x, s from t", base))
        self.assertEqual([("", 2), ("a", None), ("a", -1), ("a", 10), ("b", -1)], ask("select s, x from t", base))
        self.assertEqual([(None,), (-1,), (-1,), (2,), (10,)], ask("select x from (select x from t order by x desc) as a",
                                                                 base))
        self.assertEqual([(-1,), (2,)], ask("(select x from t order by x desc first 2) union select -1 as x from t "
                                            "except select 10 as x from t", base))


class Kept(unittest.TestCase):
    def test_nothing_is_changed_and_each_answer_is_new(self):
        question = bound("select * from t")
        base = Database(ASKED, {"t": T, "u": U, "v": V})
        rows = answer(base, question)
        rows.append("more")
        self.assertEqual([(None, 30, None), (1, 10, "a"), (1, 10, "a"), (2, None, "b")], answer(base, question))
        self.assertEqual(BASE, base)
        params = {"p": 1}
        self.assertEqual([(1,)], answer(base, bound("select w from v where w = :p"), params=params))
        self.assertEqual({"p": 1}, params)


if __name__ == "__main__":
    unittest.main()
