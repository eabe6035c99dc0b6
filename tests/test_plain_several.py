"""What is Several [30, 36], and the parameters of questions [31]."""

import unittest

from innerasks.databases import Database
from innerasks.errors import BadParameter, Several
from innerasks.plain import answer
from asking import BASE, EMPTY, ask, bound, outcome, worth_of
from samples import ANYTHING, ASKED

# A question that meets two rows if w is 1.
TWO = "one (select z from u where x = w)"
MANY = "one (select x from u)"


def asked(text, base=BASE, **params):
    return outcome(lambda: ask(text, base, **params))


class SeveralRows(unittest.TestCase):
    def test_one_of_none_of_one_of_two(self):
        self.assertEqual("several", asked(f"select w, {TWO} as k from v"))
        self.assertEqual([(None, None), (2, None)], asked(f"select w, {TWO} as k from v where w is null or w > 1"))
        self.assertEqual("several", asked("select one (select x from t where x = 1) as k from v"))
        self.assertEqual([(1,)] * 3, asked("select one (select distinct x from t where x = 1) as k from v"))
        self.assertEqual("several", asked("select one (select null as k from v) as k from v"))
        with self.assertRaises(Several):
            ask(f"select {MANY} as k from v")

    def test_where_another_part_has_settled_the_result(self):
        yes, no = "1 = 1", "1 = 2"
        bad = f"{TWO} = 'a'"
        for text in [
            f"{no} and {bad}", f"{bad} and {no}", f"{yes} or {bad}", f"{bad} or {yes}",
            f"case when {yes} then 1 when {bad} then 2 else 3 end = 1",
            f"case when {no} then {MANY} else 3 end = 3", f"case when {yes} then 3 else {MANY} end = 3",
            f"coalesce(1, {MANY}) = 1", f"coalesce({MANY}, 1) = 1", f"null + {MANY} is null", f"{MANY} = null",
            f"{MANY} in (select w from v where w > 5)", f"5 = any (select {MANY} as k from v)",
            f"exists (select {MANY} as k from v)", f"exists (select * from v where {no} and {MANY} = 1)",
            f"{MANY} <> all (select w from v where w > 5)", f"not {bad}", f"{MANY} is null", f"{MANY} is 1",
            f"one (select least({MANY}) as k from v) = 1", f"1 in (select 1 as k from v union select {MANY} as k from v)",
        ]:
            self.assertEqual("several", asked(f"select w from v where {text}"), text)
            self.assertEqual([], asked(f"select w from v where {text}", EMPTY), text)

    def test_rows_that_where_does_not_keep(self):
        self.assertEqual("several", asked(f"select w from v where w = 2 and {TWO} is null"))
        self.assertEqual([(2, None)], asked(f"select w, {TWO} as k from v where w = 2"))
        self.assertEqual([(2, None)], asked(f"select w, {TWO} as k from (select w from v where w = 2) as v"))
        # An item is looked at for each kept row, also if distinct or first leaves the row out.
        self.assertEqual("several", asked(f"select w, {TWO} as k from v order by w desc first 1"))
        self.assertEqual("several", asked(f"select w, {TWO} as k from v order by w first 0"))

    def test_no_row(self):
        base = Database(ASKED, {"u": [(1, "a"), (1, "b")]})
        self.assertEqual([], asked(f"select {MANY} as k from v", base))
        self.assertEqual([], asked(f"select w from v where {MANY} = 1", base))
        self.assertEqual([], asked(f"select w from v join t on {MANY} = 1", base))
        self.assertEqual([], asked(f"select w from v left join u on {MANY} = 1", base))
        self.assertEqual([(None, 1), (None, 1)], asked(f"select w, x from v full join u on {MANY} = 1", base))
        self.assertEqual([(None,)], asked(f"select sum({MANY}) as k from v", base))
        self.assertEqual([(0,)], asked(f"select count({MANY}) as k from v", base))
        self.assertEqual([], asked(f"select w from v group by w having {MANY} = 1", base))
        # Without group by there is a group, also of no rows.
        self.assertEqual("several", asked(f"select 1 as k from v having {MANY} = 1", base))
        self.assertEqual("several", asked(f"select {MANY} + count(*) as k from v", base))

    def test_sources_are_asked_whether_there_are_rows_or_not(self):
        bad = f"(select {MANY} as k from u) as a"
        base = Database(ASKED, {"u": [(1, "a"), (1, "b")]})
        for text in [f"v, {bad}", f"{bad}, v", f"v join {bad} on w = k", f"v left join {bad} on w = k",
                     f"v full join {bad} on w = k"]:
            self.assertEqual("several", asked(f"select w from {text}", base), text)
            self.assertEqual("several", asked(f"select w from {text} where exists (select * from t)", base), text)
        # But in a question that is not asked its sources are not asked either.
        self.assertEqual([], asked(f"select w from v where exists (select * from {bad})", base))
        self.assertEqual("several", asked(f"select w from v, u where exists (select * from {bad})",
                                          Database(ASKED, {"v": [(7,)], "u": [(1, "a"), (1, "b")]})))

    def test_conditions_of_joins_are_looked_at_for_all_pairs(self):
        for kind in ("join", "left join", "full join"):
            self.assertEqual("several", asked(f"select w from v {kind} t on w = 7 and {TWO} = 'a'"))
            self.assertEqual([], asked(f"select w from (select w from v where w > 5) as v {kind} "
                                       f"(select x from t where x > 5) as t on {TWO} = 'a'"))
        self.assertEqual([(None, None), (2, 2)],
                         asked(f"select w, x from (select w from v where w is null or w > 1) as v left join "
                               f"(select x from t where x > 1) as t on w = x and {TWO} is null"))

    def test_groups(self):
        # Of a group that is not kept the aggregates are looked at, the rest of the items is not.
        some = "one (select z from u where u.x = a.x)"
        self.assertEqual("several", asked(f"select x, {some} as k from u as a group by x"))
        self.assertEqual([(2, None)], asked(f"select x, {some} as k from u as a group by x having x = 2"))
        self.assertEqual("several", asked(f"select x, least({some}) as k from u as a group by x having x = 2"))
        self.assertEqual([(2, None)], asked(f"select x, least({some}) as k from u as a where x = 2 group by x"))
        self.assertEqual("several", asked(f"select x from u as a group by x having x = 2 and {some} is null"))
        self.assertEqual("several", asked(f"select x from u as a group by x having x = 2 and count({some}) = 0"))
        self.assertEqual("several", asked(f"select x, case when x = 2 then 1 else count({some}) end as k "
                                          "from u as a group by x having x = 2"))

    def test_parts_of_a_union_and_its_kin(self):
        bad = f"select {MANY} as k from v"
        for words in ("union", "union all", "except", "except all", "intersect", "intersect all"):
            self.assertEqual("several", asked(f"{bad} {words} select x from t where x = 7"), words)
            self.assertEqual("several", asked(f"select x from t where x = 7 {words} {bad}"), words)


class Parameters(unittest.TestCase):
    def test_values(self):
        for value in (None, 0, -7, 10 ** 59, "", "it's", "z" * 40):
            self.assertEqual(value, worth_of(":p", p=value))
        self.assertEqual(7, worth_of(":p + :q * :p", p=1, q=6))
        self.assertEqual([(1,), (2,)], ask("select w from v where w in (select x from u where x = w or x = :p)", p=1))

    def wrong(self, text, params):
        with self.assertRaises(BadParameter) as caught:
            answer(BASE, bound(text), params=params)
        return caught.exception.word

    def test_the_first_that_is_missing_by_the_order_of_the_tree(self):
        # The items stand ahead of the sources in the tree, these ahead of where.
        names = ["c", "b", "d", "a", "e"]
        params = {}
        for name in names:
            self.assertEqual(name, self.wrong("select :c as a, :b as b from v join u on x = :d where w = :a "
                                              "having count(:e) = 1", dict(params)))
            params[name] = 1
        self.assertEqual("c", self.wrong("select :c as k from v where exists (select :b as k from v)", {}))
        self.assertEqual("d", self.wrong("select w from (select :d as w from v) as v where :a = 1", None))
        self.assertEqual("b", self.wrong("select case when w = :b then :a else :c end as k from v", {"c": 1}))
        self.assertEqual("z", self.wrong("select w from v where :z = any (select :a as k from v)", {}))

    def test_values_that_are_none(self):
        for value in ANYTHING + [True, (), "z" * 41, "\n", chr(37), b"x", 1.5]:
            if value is None or isinstance(value, int) and not isinstance(value, bool):
                continue
            if isinstance(value, str) and len(value) <= 40 and all(" " <= c <= "~" and c != chr(37) for c in value):
                continue
            self.assertEqual("q", self.wrong("select :p as a, :q as b, :r as c from v", {"p": 1, "q": value, "r": 1}))
            self.assertEqual("p", self.wrong("select :p as a, :q as b, :r as c from v", {"p": value, "q": value}))

    def test_names_that_do_not_occur(self):
        self.assertEqual("a", self.wrong("select :p as k from v", {"z": 1, "p": 1, "b": 1, "a": 1}))
        self.assertEqual("b", self.wrong("select w from v", {"z": True, "b": 1}))
        self.assertEqual("p", self.wrong("select :p as k from v", {"a": 1}))
        self.assertEqual("k", self.wrong("select w as k from v", {"k": 1}))

    def test_ahead_of_several(self):
        self.assertEqual("p", self.wrong(f"select {MANY} as k, :p as l from v", {}))
        self.assertEqual("q", self.wrong(f"select {MANY} as k from v", {"q": 1}))
        self.assertEqual("p", self.wrong("select :p as k from v where w = 77", {}))

    def test_names_that_are_words_of_trees(self):
        # A text, a name of an item or of a table is no parameter.
        self.assertEqual([("param",)] * 3, ask("select 'param' as param from v"))
        self.assertEqual([("x",)], ask("select distinct 'x' as param from v as param"))


if __name__ == "__main__":
    unittest.main()
