"""The errors of bind, and which of several comes first [24 to 27]."""

import unittest

from innerasks.binding import bind
from innerasks.errors import (
    Ambiguous, BadAggregate, BadGroup, BadKind, BadShape, SameName, UnknownColumn, UnknownTable,
)
from innerasks.reader import read_question
from samples import ASKED

BAD = "select bad from t"


class Faults(unittest.TestCase):
    def fault(self, error, text, **fields):
        with self.assertRaises(error) as caught:
            bind(ASKED, read_question(text))
        self.assertEqual(fields, vars(caught.exception), text)

    def good(self, *texts):
        for text in texts:
            self.assertEqual(2, len(bind(ASKED, read_question(text))))

    def unknown(self, alias, word, *texts):
        for text in texts:
            self.fault(UnknownColumn, text, alias=alias, word=word)

    def bad_group(self, word, *texts):
        for text in texts:
            self.fault(BadGroup, text, word=word)

    def bad_aggregate(self, word, *texts):
        for text in texts:
            self.fault(BadAggregate, text, word=word)

    def same_name(self, word, *texts):
        for text in texts:
            self.fault(SameName, text, word=word)

    def bad_kind(self, word, *texts):
        for text in texts:
            self.fault(BadKind, text, word=word)

    def bad_shape(self, word, *texts):
        for text in texts:
            self.fault(BadShape, text, word=word)


class Names(Faults):
    def test_tables(self):
        for text in ("select x from q", "select x from t, q", "select x from t join q on x", "select x from q as t",
                     "select x from (select x from q) as t", "select x from t where exists (select * from q)",
                     "select x from t union select x from q", "select x from q order by x",
                     "select one (select a from q) as x from t", "select 1 as n from t having 1 in (select a from q)"):
            self.fault(UnknownTable, text, word="q")

    def test_columns(self):
        self.unknown(None, "bad", BAD, "select x from t where bad = 1", "select x from t group by bad",
                     "select x from t having bad = 1", "select x from t join u on bad = 1", "select sum(bad) as n from t",
                     "select x from t where exists (select bad from u)", "select x + bad as n from t",
                     "select x from t where exists (select w from v where w = bad)")
        self.unknown("t", "bad", "select t.bad from t", "select x from t where t.bad = 1", "select x from t group by t.bad")
        self.unknown("q", "x", "select q.x from t", "select t.x from t join u on q.x = 1", "select x from t group by q.x")
        self.unknown("t", "x", "select t.x from t as a", "select t.x from (select x from t) as a")
        self.unknown(None, "y", "select y from (select x from t) as a")

    def test_an_alias_hides_those_further_out(self):
        self.unknown("t", "y", "select y from t where exists (select t.y from u as t)")
        self.unknown("t", "y", "select y from t where exists (select 1 as n from v where exists (select t.y from u as t))")
        self.unknown("t", "s", "select t.x from t where x in (select w from v as t where t.s = 'a')")
        self.good("select y from t where exists (select y from u as t)")

    def test_what_a_condition_of_a_join_does_not_see(self):
        self.unknown(None, "y", "select y from t, u join v on y = 1", "select y from (u join v on y = 1) cross join t")
        self.unknown("t", "y", "select y from t, u join v on t.y = 1", "select y from v join u on t.y = 1 join t on w = y")
        self.good("select y from v join u on z = 'a' join t on w = y")

    def test_what_a_question_in_from_does_not_see(self):
        self.unknown("t", "x", "select t.x from t, (select t.x from u) as a")
        self.unknown(None, "y", "select y from t, (select y from u) as a", "select y from t join (select y from u) as a on y")
        self.unknown(None, "w", "select x from t where exists (select * from v, (select w from u) as a)")

    def test_columns_of_inner_selects_are_not_seen_outside(self):
        self.unknown(None, "w", "select x from t where exists (select w from v) and w = 1")
        self.unknown(None, "z", "select x from t union select z from t")
        self.unknown(None, "x", "select w from v union select x from v")

    def test_ambiguous(self):
        for text in ("select x from t, u", "select w from v join (t join u on x = 1) on w = 1",
                     "select w from v where w in (select x from t, u)", "select t.x from t, u group by x",
                     "select x from t, (select x from v, u) as a", "select w from v, t, u where x = 1",
                     "select w from v where w = 1 and exists (select 1 as n from t as a, t as b where x = 1)"):
            self.fault(Ambiguous, text, word="x")
        self.good("select t.x from t, u", "select y from t, u", "select x from u where exists (select x from t)",
                  "select x from t where exists (select y from u)", "select z from t, u join v on x = w")

    def test_ambiguous_further_out(self):
        self.fault(Ambiguous, "select t.x from t, u where exists (select x from v)", word="x")
        self.good("select t.x from t, u where exists (select x from u)")

    def test_same_aliases(self):
        self.same_name("t", "select 1 as n from t, t", "select 1 as n from t, u as t", "select 1 as n from u as t join t on 1",
                       "select 1 as n from t cross join (v cross join t)", "select 1 as n from t, (select w from v) as t",
                       "select 1 as n from (select w from v) as t, t", "select w from v where exists (select * from t, t)")
        self.good("select a.x from t as a, t", "select x from t where exists (select * from t)",
                  "select x from (select x from t) as t", "select x from (select t.x from t, u) as t")

    def test_same_items(self):
        self.same_name("x", "select x, x from t", "select x, y as x from t", "select 1 as x, y, x from t",
                       "select * from t, u", "select * from t as a, t as b", "select t.x, u.x from t, u",
                       "select w from v where exists (select x, x from t)", "select w from v union select x, x from t")
        self.good("select t.x, u.x as y from t, u", "select * from t, v", "select x from t union select x from u")

    def test_same_groups(self):
        self.same_name("x", "select 1 as n from t group by x, x", "select 1 as n from t group by t.x, x",
                       "select 1 as n from t group by x, y, t.x")
        self.good("select 1 as n from t, u group by t.x, u.x")

    def test_keys(self):
        self.unknown(None, "y", "select x from t order by y", "select x, y as a from t order by x, y", "select x from t "
                     "union select y from t order by y", "select w from v where w in (select x from t order by y)")
        self.same_name("x", "select x from t order by x, x", "select x, y from t order by x, y, x desc")
        self.good("select x, y from t order by y desc, x")

    def test_groups(self):
        self.bad_group("x", "select x from t group by y", "select x, count(*) as n from t", "select x from t group by ()",
                       "select x from t having 1 = 1", "select 1 as n from t group by y having x = 1",
                       "select y + x as n from t group by y", "select 1 as n from t having x = count(*)",
                       "select t.x from t, u group by u.x", "select x, 1 as n from t having count(*) = 1")
        self.good("select x from t group by x", "select x + 1 as n from t group by y, x", "select sum(x) as n from t",
                  "select y, sum(x) as n from t group by y", "select 1 as n from t where x = 1 group by y",
                  "select u.x from t, u group by u.x", "select 1 as n from t join u on t.x = u.x group by y")

    def test_aggregates_in_every_form_make_a_select_grouped(self):
        for form in ("count(*)", "1 + sum(y)", "least(y) - 1", "- most(y)", "coalesce(1, count(y))",
                     "case when count(*) = 1 then 1 end", "case when 1 = 2 then 1 when 1 = 1 then count(*) end",
                     "case when 1 = 1 then 1 else count(*) end", "1 = count(*)", "count(*) is 1", "count(*) is null",
                     "not count(*) = 1", "1 = 1 and count(*) = 1", "1 = 1 or not not count(*) = 1",
                     "count(*) in (select w from v)", "count(*) = any (select w from v)", "1 * (1 + (1 - count(*)))",
                     "count(*) < all (select w from v)", "case when 1 not in (select w from v) then sum(y) end"):
            self.bad_group("x", f"select {form} as n, x from t")

    def test_aggregates_in_questions_do_not(self):
        asked = "(select count(*) as n from v)"
        self.good(f"select one {asked} as n, x from t", f"select case when 1 in {asked} then 1 end as n, x from t",
                  f"select case when exists {asked} then 1 end as n, x from t",
                  f"select case when 1 = any {asked} then 1 end as n, x from t",
                  f"select coalesce(1, one {asked}) as n, x from t")

    def test_groups_and_star(self):
        self.bad_group("y", "select * from t group by x")
        self.bad_group("x", "select * from t having 1 = 1", "select * from t group by ()")
        self.good("select * from t group by s, y, x")

    def test_groups_in_questions_inside(self):
        self.bad_group(
            "x", "select y, one (select w from v where w = x) as n from t group by y",
            "select y from t group by y having exists (select w from v where w = t.x)",
            "select y, one (select sum(x) as m from v) as n from t group by y",
            "select count(*) as n, one (select x as m from v) as k from t",
            "select y, one (select 1 as m from (select x as q from v) as b) as n from t group by y",
            "select y, one (select 1 as m from v join v as b on x = 1) as n from t group by y",
            "select y, one (select w from v where exists (select 1 as a from v as b where b.w = x)) as n from t group by y",
        )
        self.good("select y, one (select x from u where x = y) as n from t group by y",
                  "select sum(one (select w + x as m from v)) as n from t",
                  "select x from t where exists (select count(*) as n from v where w = x)",
                  "select x from t where exists (select count(*) + x as n from v)")

    def test_groups_are_own_columns(self):
        self.bad_group("x", "select x from t where exists (select 1 as n from v group by x)",
                       "select x from t where exists (select 1 as n from v group by w, t.x)")

    def test_aggregates(self):
        for word in ("count", "sum", "least", "most"):
            self.bad_aggregate(
                word, f"select x from t where {word}(x) = 1", f"select x from t join u on {word}(y) = 1",
                f"select sum({word}(x)) as n from t", f"select 1 as n from t having count({word}(x) + 1) = 1",
                f"select x from t where exists (select w from v where {word}(w) = 1)",
                f"select count(*) as n from t where y + {word}(x) = 1",
                f"select sum(x + coalesce({word}(y), 1)) as n from t",
            )
        self.bad_aggregate("count", "select x from t where count(*) = 1", "select most(count(*)) as n from t",
                           "select x from t where 1 = 1 and not exists (select 1 as n from v where count(*) = 1)")
        self.good("select count(*) + sum(x) as n from t", "select 1 as n from t having count(*) = 1",
                  "select sum(one (select sum(w) as a from v)) as n from t",
                  "select x from t where x in (select count(*) as n from v)",
                  "select sum(one (select count(*) as a from v having most(w) = 1)) as n from t")

    def test_aggregates_come_ahead_of_their_arguments(self):
        self.bad_aggregate("sum", "select x from t where sum(bad) = 1", "select x from t where sum(count(*)) = 1")
        self.bad_aggregate("count", "select sum(count(bad)) as n from t")
        self.unknown(None, "bad", "select sum(bad + count(x)) as n from t", "select x from t where bad = sum(x)")
        self.bad_aggregate("count", "select sum(count(x) + bad) as n from t")


class OrderOfNames(Faults):
    def test_parts_of_a_select(self):
        parts = ["(select ba from t) as q", "where bb = 1", "group by bc", "having bd = 1", "be", "bf"]
        for many in range(6):
            told = ["t as q", "", "", "", "1 as n", "n"][:many] + parts[many:]
            text = f"select {told[4]} from t, {told[0]} {told[1]} {told[2]} {told[3]} order by {told[5]}"
            self.unknown(None, "ba bb bc bd be bf".split()[many], text)

    def test_sources(self):
        self.unknown(None, "a", "select x from (select a from t) as q join (select b from t) as r on c = 1")
        self.unknown(None, "b", "select x from (select x from t) as q join (select b from t) as r on c = 1")
        self.unknown(None, "c", "select d from (select x from t) as q join (select y from t) as r on c = 1")
        self.unknown(None, "c", "select x from t join u on c = 1, q")
        self.fault(UnknownTable, "select x from q, t join u on c = 1", word="q")
        self.unknown(None, "c", "select x from t join u on c = 1 join t on d = 1")
        self.same_name("t", "select x from t join t on c = 1")
        self.unknown(None, "bad", f"select x from t join ({BAD}) as t on c = 1")

    def test_a_table_comes_ahead_of_its_alias(self):
        self.fault(UnknownTable, "select x from t, q as t", word="q")
        self.fault(UnknownTable, "select x from t join (v join q as v on x = 1) on x = 1", word="q")

    def test_expressions_from_left_to_right(self):
        for text in ("a + b", "a = b", "a is b", "coalesce(a, b)", "case when a = 1 then b else c end",
                     "case when 1 = 1 then a else b end", "case when 1 = 1 then a when b = 1 then c end",
                     "case when 1 = 1 then 1 when a = 1 then b end", "a * 1 - b", "1 + a * b", "a = 1 or b = 1",
                     "a = 1 and b = 1", "a in (select b from t)", "a = any (select b from t)",
                     "a < all (select b from t)", "- a", "count(a)", "sum(a)", "not a", "a is null",
                     "exists (select b from t where a = 1)", "one (select b from t where a = 1)"):
            self.unknown(None, "a", f"select {text} as n from t", f"select 1 as n, {text} as m, b as k from t")

    def test_parts_of_bodies(self):
        for word in ("union", "except", "intersect"):
            self.unknown(None, "a", f"select a from t {word} select b from t order by c")
            self.unknown(None, "b", f"select x from t {word} select b from t order by c")
            self.unknown(None, "c", f"select x from t {word} select y from t order by c")

    def test_an_item_comes_ahead_of_its_name(self):
        self.unknown(None, "bad", "select x, bad as x from t")
        self.same_name("x", "select x, y as x, bad from t")

    def test_columns_of_star(self):
        self.bad_group("s", "select * from (select 1 as a, 's' as s from t) as q, t group by a, x")
        self.same_name("x", "select * from t, u group by t.x, u.x, y, s")
        self.bad_group("x", "select * from t, u group by t.x, y, s, z")

    def test_keys_in_order(self):
        self.unknown(None, "a", "select x from t order by a, x, x")
        self.same_name("x", "select x from t order by x, x, a")

    def test_groups_in_order(self):
        self.same_name("x", "select 1 as n from t group by x, x, bad")
        self.unknown(None, "bad", "select 1 as n from t group by x, bad, x")
        self.bad_group("y", "select y from t where exists (select 1 as n from v group by w, y, w)")


class KindFaults(Faults):
    def where(self, word, *texts):
        for text in texts:
            self.bad_kind(word, f"select x from t where {text}")

    def item(self, word, *texts):
        for text in texts:
            self.bad_kind(word, f"select {text} as n from t")

    def test_sums(self):
        for sign in "+-*":
            self.item(sign, f"x {sign} s", f"s {sign} x", f"'a' {sign} 1", f"x {sign} (x = 1)", f"(x = 1) {sign} null",
                      f"null {sign} 'a'", f"'a' {sign} 'b'", f":p {sign} s", f"- 's' {sign} 1" if sign == "-" else
                      f"1 {sign} 's'")
        self.item("-", "- s", "- 'a'", "- (x = 1)")

    def test_comparisons(self):
        for sign in ("=", "<>", "<", "<=", ">", ">=", "is"):
            self.where(sign, f"x {sign} s", f"s {sign} 1", f"'a' {sign} x", f"(x = 1) {sign} (y = 1)",
                       f"null {sign} (x = 1)", f"(x = 1) {sign} x")
            self.good(f"select x from t where x {sign} 1", f"select x from t where s {sign} 'a'",
                      f"select x from t where 1 {sign} :p", f"select x from t where :p {sign} s")

    def test_in_any_all(self):
        self.where("in", "x in (select z from u)", "s in (select w from v)", "(x = 1) in (select w from v)")
        self.where("any", "x = any (select z from u)", "(x = 1) < any (select w from v)")
        self.where("all", "s >= all (select w from v)", "(x = 1) < all (select w from v)")

    def test_case(self):
        self.item("case", "case when x = 1 then x else s end", "case when x = 1 then 1 when y = 1 then 'a' end",
                  "case when x = 1 then x = 1 end", "case when x = 1 then null else x = 1 end")
        self.item("when", "case when x then 1 end", "case when null then 1 end", "case when x = 1 then 1 when s then 1 end",
                  "case when :p then 1 end")

    def test_coalesce(self):
        self.item("coalesce", "coalesce(x, s)", "coalesce(null, x, 'a')", "coalesce(x = 1)", "coalesce(null, x = 1)")

    def test_aggregates(self):
        self.item("sum", "sum(s)", "sum('a')", "sum(x = 1)")
        self.item("count", "count(x = 1)", "count(distinct x = 1)")
        self.item("least", "least(x = 1)", "least(x is null)")
        self.item("most", "most(exists (select w from v))")

    def test_truths(self):
        for word in ("and", "or"):
            self.where(word, f"x {word} y = 1", f"x = 1 {word} null", f"x = 1 {word} :p", f"x = 1 {word} x = 2 {word} s")
        self.where("not", "not x", "not null", "not :p", "not not x")
        self.where("null", "(x = 1) is null", "(x = 1) is not null", "(exists (select w from v)) is null",
                   "(not x = 1) is null")

    def test_where_on_having(self):
        for text in ("x", "1", "null", ":p", "s", "count(*)"):
            self.bad_kind("having", f"select 1 as n from t group by x, s having {text}")
            if text != "count(*)":
                self.bad_kind("where", f"select x from t where {text}")
                self.bad_kind("on", f"select y from t left join v on {text}", f"select y from v, t full join v as b on {text}")

    def test_items(self):
        self.item("items", "x = 1", "x is null", "not x = 1", "x = 1 and y = 1", "exists (select w from v)",
                  "x in (select w from v)", "x < all (select w from v)")
        self.bad_kind("items", "select x from t where exists (select w = 1 as n from v)",
                      "select x from (select x = 1 as x from t) as q", "select x from t union select x = 1 as a from t",
                      "select x from t where x in (select w is null as n from v)")

    def test_open_items_become_whole(self):
        self.bad_kind("=", "select x from (select null as x from t) as q where x = 'a'")
        self.bad_kind("union", "select x from (select null as x from t) as q union select s from t")
        self.bad_kind("=", "select x from (select coalesce(:p) as x from t union select null as a from t) as q where x = 'a'")

    def test_bodies(self):
        for word in ("union", "except", "intersect"):
            self.bad_kind(word, f"select x from t {word} select s from t", f"select 'a' as n from t {word} select x from t",
                          f"select x, s from t {word} select y, x from t",
                          f"select null as a, s from t {word} select s, 1 as b from t",
                          f"select x from t where exists (select x from t {word} select s from t)")
            self.bad_shape(word, f"select x from t {word} select x, y from t", f"select * from t {word} select x, y from t",
                           f"select x, y from t {word} select s from t",
                           f"select x from t where exists (select x from t {word} all select x, y from t)")
            self.good(f"select x, s from t {word} select null as a, null as b from t")

    def test_three_parts(self):
        self.bad_kind("except", "select null as a from t union select s from t except select x from t")
        self.bad_kind("union", "select null as a from t union (select s from t except select null as a from t) union "
                      "select x from t")

    def test_shapes(self):
        for word, text in (("one", "one (select x, y from t) = 1"), ("in", "x in (select x, y from t)"),
                           ("any", "x = any (select * from t)"), ("all", "x = all (select x, y from t)")):
            self.bad_shape(word, f"select x from t where {text}", f"select x from t where not {text}")
        self.good("select x from t where exists (select x, y from t)", "select x from t where x in (select * from v)")


class OrderOfKinds(Faults):
    def test_names_come_ahead_of_kinds(self):
        self.unknown(None, "bad", "select x + s as n, bad from t", "select x from t where x = s order by bad",
                     "select x from t where x union select bad from t", "select x from t join u on s = 1 where bad = 1")
        self.same_name("x", "select x, x from t where x")
        self.bad_aggregate("sum", "select y from t join u on y where sum(y) = 1")
        self.bad_group("x", "select x from t where s group by y")
        self.fault(Ambiguous, "select s + 1 as n, x from t, u", word="x")
        self.fault(UnknownTable, "select s + 1 as n from t where exists (select * from q)", word="q")

    def test_parts_of_a_select(self):
        parts = ["select 1 + 'a' as b from t", "'a' - 1 = 1", "'a' * 1 = 1", "1 = 'a'", "1 < 'a'"]
        plain = ["select 1 as b from t", "1 = 1", "1 = 1", "1 = 1", "1 = 1"]
        for many, word in enumerate(["+", "-", "*", "=", "<"]):
            told = plain[:many] + parts[many:]
            self.bad_kind(word, f"select case when {told[4]} then 1 end as n from v join ({told[0]}) as q on {told[1]} "
                          f"where {told[2]} group by w having {told[3]}")

    def test_parts_come_ahead_of_what_they_are_parts_of(self):
        self.bad_kind("+", "select x from t where x + s = s")
        self.bad_kind("=", "select x from t where x = s and x")
        self.bad_kind("*", "select x from t where x and x * s = 1")
        self.bad_kind("=", "select x from t where not x = s")
        self.bad_kind("sum", "select sum(s) + 'a' as n from t")
        self.bad_kind("+", "select sum(x + s) as n from t")
        self.bad_kind("items", "select x from t where x in (select w = 1 as n from v) and x")
        self.bad_kind("-", "select x from t where (x - s) is null")
        self.bad_kind("where", "select x from t where x in (select w from v where w)")

    def test_from_left_to_right(self):
        self.bad_kind("+", "select x + s as a, x * s as b from t")
        self.bad_kind("items", "select x = 1 as a, x * s as b from t")
        self.bad_kind("*", "select x * s as b, x = 1 as a from t")
        self.bad_kind("+", "select coalesce(x + s, x * s) as a from t")
        self.bad_kind("*", "select x from t where s * x = 1 or s + x = 1")

    def test_when_comes_ahead_of_its_value(self):
        self.bad_kind("when", "select case when x then x + s end as n from t")
        self.bad_kind("+", "select case when x + s = 1 then 1 end as n from t")
        self.bad_kind("+", "select case when x = 1 then x + s when x then 1 end as n from t")
        self.bad_kind("when", "select case when x = 1 then 1 when x then 's' end as n from t")
        self.bad_kind("*", "select case when x = 1 then 's' else x * s end as n from t")
        self.bad_kind("case", "select case when x = 1 then 's' else x end * s as n from t")

    def test_joins(self):
        self.bad_kind("on", "select w from v join t on w join u on 1 + 's' = 1 where w")
        self.bad_kind("+", "select w from (select 1 + 's' as a from t) as q join v on w")
        self.bad_kind("*", "select w from v join (select 1 * 's' as a from t) as q on w")
        self.bad_kind("-", "select w from v join t on 1 - s = 1, u join u as b on u.z")

    def test_shapes_and_kinds(self):
        self.bad_shape("in", "select x from t where s in (select x, y from t)", "select x from t where (x = 1) in "
                       "(select x, y from t)")
        self.bad_shape("any", "select x from t where s = any (select x, y from t)")
        self.bad_shape("union", "select s from t union select x, y from t", "select s, x from t union select x from t")
        self.bad_kind("+", "select x from t where s in (select x, x + s as y from t)",
                      "select x from t where x + s in (select x, y from t)",
                      "select x from t where s = all (select x + s as n, y from t)",
                      "select x + s as n from t union select x, y from t",
                      "select x, y from t union select x + s as n from t",
                      "select one (select x + s as a, y from t) as n from t")
        self.bad_shape("one", "select one (select x, y from t) + s as n from t")
        self.bad_kind("items", "select x from t union select x = 1 as a, y from t")
        self.bad_shape("union", "select x from t union select x, y from t except select 1 + 's' as a from t")
        self.bad_kind("union", "select x from t union select s from t except select x, y from t")


if __name__ == "__main__":
    unittest.main()
