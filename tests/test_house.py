"""The house [66 to 69]."""

import random
import unittest

from innerasks.compiling import compiled
from innerasks.databases import Database
from innerasks.errors import (
    BadKind, BadParameter, Broken, InUse, InvalidChange, InvalidName, InvalidRows, NoQuestion, NothingToRedo, NothingToUndo, SameName, Several,
    UnknownColumn, UnknownName, UnknownTable, WrongWidth,
)
from innerasks.flattening import flat, is_flat
from innerasks.house import House
from innerasks.plain import answer
from innerasks.reader import read_question
from innerasks.running import run
from innerasks.schemas import Column, Schema, Table
from innerasks.views import Views
from asking import outcome
from samples import ANYTHING
from test_views import PLACES

SHOP = Schema(
    Table("t", [Column("x", "whole"), Column("y", "whole"), Column("s", "text")]),
    Table("u", [Column("x", "whole"), Column("z", "text")]),
    Table("v", [Column("w", "whole")]),
    Table("item", [Column("code", "whole", required=True), Column("name", "text")], unique=[("code",)]),
    Table("sale", [Column("code", "whole"), Column("many", "whole")], references=[(("code",), "item", ("code",))]),
)
ROWS = {"t": [(1, 10, "a"), (2, None, "b")], "u": [(1, "a"), (1, "b"), (2, None)], "v": [(1,), (2,), (None,)],
        "item": [(1, "pen"), (2, "ink")], "sale": [(1, 3), (1, 3), (None, 1)]}


class Told(unittest.TestCase):
    def setUp(self):
        self.house = House(SHOP, ROWS)

    def raises(self, error, told, call):
        """A call that raises an error changes nothing, not what can be redone either."""
        house = self.house
        before = (house.database, house.views, house.prepared, house.steps)
        with self.assertRaises(error) as caught:
            call()
        self.assertEqual(told, vars(caught.exception))
        self.assertEqual(before, (house.database, house.views, house.prepared, house.steps))

    def state(self):
        house = self.house
        return house.database, house.views, house.prepared, house.steps


class Asked(Told):
    def test_constructed(self):
        house = self.house
        self.assertEqual(Database(SHOP, ROWS), house.database)
        self.assertEqual(Views(SHOP), house.views)
        self.assertEqual({}, house.prepared)
        self.assertEqual((), house.steps)
        self.assertEqual(Database(SHOP), House(SHOP).database)
        self.raises(UnknownTable, {"word": "q"}, lambda: House(SHOP, {"z": [], "q": [], "t": 5}))
        self.raises(InvalidRows, {"word": "t"}, lambda: House(SHOP, {"v": 5, "t": [(1,)]}))
        self.raises(Broken, {"found": ("required", "item", 0, (None, None))}, lambda: House(SHOP, {"item": [(None, None)]}))

    def test_ask(self):
        ask = self.house.ask
        self.assertEqual([(1,), (2,)], ask("select x from t"))
        self.assertEqual([(2,), (1,)], ask("select x from t order by x desc"))
        self.assertEqual([(1,)], ask("select x from t where y = :p", params={"p": 10}))
        self.house.define("adult", "select x, s from t where y is not null")
        self.assertEqual([(1, "a")], ask("select * from adult"))
        self.assertEqual([], ask("select * from adult where x = :p", params={"p": None}))
        for thing in ANYTHING:
            if not isinstance(thing, str):
                self.raises(NoQuestion, {"place": 0}, lambda: ask(thing))
        for text, place in (("", 0), ("x", 0), ("select", 6), ("select x from t where %", 22)):
            self.raises(NoQuestion, {"place": place}, lambda: ask(text))
        self.raises(UnknownTable, {"word": "q"}, lambda: ask("select x from q where :p = 1"))
        self.raises(BadParameter, {"word": "p"}, lambda: ask("select :p as k, :a as l from t"))
        self.raises(BadParameter, {"word": "p"}, lambda: ask("select :p as k, one (select x from u) as l from t", params={"p": True}))
        self.raises(BadParameter, {"word": "a"}, lambda: ask("select x from t", params={"p": 1, "a": 1}))
        self.raises(Several, {}, lambda: ask("select one (select x from u) as l from t"))

    def test_prepared(self):
        house = self.house
        house.define("adult", "select x, s from t where y is not null")
        told = {"later": " select  x from t\nwhere x in (select q.x from adult as q) or y is :p", "early": "select x as k from u order by k desc first 2"}
        for name, text in told.items():
            self.assertIsNone(house.prepare(name, text))
        self.assertEqual(told, house.prepared)
        self.assertEqual(["early", "later"], list(house.prepared))
        house.prepared.clear()
        self.assertEqual(told, house.prepared)
        self.assertEqual([(2,), (1,)], house.run("early"))
        self.assertEqual([(1,)], house.run("later", params={"p": 1}))
        self.assertEqual([(1,), (2,)], house.run("later", params={"p": None}))
        house.apply(("replace", "t", "select 7 as a, 7 as b, 'c' as c from v where w = 1"))
        self.assertEqual([(7,)], house.run("later", params={"p": 1}))
        self.raises(BadParameter, {"word": "p"}, lambda: house.run("later"))
        self.raises(BadParameter, {"word": "p"}, lambda: house.run("early", params={"p": 1}))
        house.prepare("third", "select one (select x from u) as l from t where x = :a and y = :b")
        self.raises(BadParameter, {"word": "a"}, lambda: house.run("third", params={"b": 1, "c": 1}))
        house.prepare("fourth", "select one (select x from u) as l from t")
        self.raises(Several, {}, lambda: house.run("fourth"))
        for thing in ANYTHING + ["adult", "t", "fifth", ["early"], ("early",), house]:
            self.raises(UnknownName, {"value": thing}, lambda: house.run(thing, params={"p": 1}))
            self.raises(UnknownName, {"value": thing}, lambda: house.plan_of(thing))

    def test_plan_of(self):
        house = self.house
        house.define("adult", "select x, s from t where y is not null")
        for at, text in enumerate(PLACES):
            name = "p" + "abcdefghijklmnopqrstuvwxyz"[at % 26] * (1 + at // 26)
            house.prepare(name, text.replace("VIEW", "adult"))
            plan = house.plan_of(name)
            self.assertTrue(is_flat(plan))
            self.assertEqual((), plan.free)
            self.assertEqual(outcome(lambda: house.run(name)), outcome(lambda: run(house.database, plan)))
            self.assertEqual(outcome(lambda: house.ask(text.replace("VIEW", "adult"))), outcome(lambda: house.run(name)))
        house.prepare("param", "select x from t where y = :p")
        self.assertEqual([(1,)], run(house.database, house.plan_of("param"), params={"p": 10}))


class Named(Told):
    def test_define(self):
        house = self.house
        self.assertIsNone(house.define("adult", "select x, s from t where y is not null"))
        house.define("near", "select a.x, u.z as k from adult as a join u on a.x = u.x")
        self.assertEqual(("adult", "near"), house.views.names)
        self.assertEqual(Views(SHOP, ("adult", read_question("select x, s from t where y is not null")),
                               ("near", read_question("select a.x, u.z as k from adult as a join u on a.x = u.x"))), house.views)
        house.prepare("asked", "select x from near")
        for call in (house.define, house.prepare):
            for thing in ANYTHING + ["select", "self", "ab1", ["q"], house]:
                if isinstance(thing, str) and thing in ("x", "t", "whole", "abcdefghijkl"):
                    continue
                self.raises(InvalidName, {"value": thing}, lambda: call(thing, "nothing"))
            for name in ("t", "sale", "adult", "near", "asked"):
                self.raises(SameName, {"word": name}, lambda: call(name, "nothing"))
            self.raises(NoQuestion, {"place": 14}, lambda: call("fresh", "select q from "))
            for thing in (None, 5, read_question("select x from t")):
                self.raises(NoQuestion, {"place": 0}, lambda: call("fresh", thing))
            self.raises(UnknownTable, {"word": "asked"}, lambda: call("fresh", "select :p as k from asked"))
            self.raises(UnknownTable, {"word": "fresh"}, lambda: call("fresh", "select :p as k from fresh"))
            self.raises(UnknownColumn, {"alias": None, "word": "q"}, lambda: call("fresh", "select q, :p as k from near"))
            self.raises(BadKind, {"word": "+"}, lambda: call("fresh", "select s + 1 as q, :p as k from t"))
        self.raises(BadParameter, {"word": "p"}, lambda: house.define("fresh", "select :p as k, :a as l from t"))
        self.assertIsNone(house.prepare("fresh", "select :p as k, :a as l from t"))

    def test_drop(self):
        house = self.house
        house.define("adult", "select x, s from t where y is not null")
        house.define("near", "select a.x from adult as a")
        house.prepare("bb", "select q.x from near as q")
        house.prepare("aa", "select x from t where x in (select q.x from adult as q)")
        for thing in ANYTHING + ["t", "sale", "none", ["adult"], ("aa",), house]:
            self.raises(UnknownName, {"value": thing}, lambda: house.drop(thing))
        self.raises(InUse, {"word": "near"}, lambda: house.drop("adult"))
        self.raises(InUse, {"word": "bb"}, lambda: house.drop("near"))
        house.prepare("ab", "select count(*) as n from near")
        self.raises(InUse, {"word": "ab"}, lambda: house.drop("near"))
        house.drop("ab")
        house.drop("bb")
        self.assertIsNone(house.drop("near"))
        self.raises(InUse, {"word": "aa"}, lambda: house.drop("adult"))
        self.assertEqual(("adult",), house.views.names)
        self.assertEqual(["aa"], list(house.prepared))
        house.drop("aa")
        house.drop("adult")
        self.assertEqual(((), {}), (house.views.names, house.prepared))
        # The names are free again.
        house.define("aa", "select w from v")
        house.prepare("adult", "select w from aa")
        self.assertEqual([(None,), (1,), (2,)], house.run("adult"))

    def test_in_use_at_every_place(self):
        house = self.house
        house.define("adult", "select x, s from t where y is not null")
        for text in PLACES:
            told = text.replace("VIEW", "adult")
            house.prepare("asked", told)
            self.raises(InUse, {"word": "asked"}, lambda: house.drop("adult"))
            house.define("user", told)
            self.raises(InUse, {"word": "user"}, lambda: house.drop("adult"))
            house.drop("user")
            house.drop("asked")
        house.drop("adult")

    def test_what_looks_like_a_use(self):
        house = self.house
        house.define("adult", "select x, s from t where y is not null")
        house.define("user", "select adult.x as adult from t as adult order by adult desc")
        house.prepare("asked", "select adult.x as adult from t as adult where adult.s = 'adult' and adult.y = :adult order by adult")
        house.drop("adult")
        self.assertEqual(("user",), house.views.names)


class Applied(Told):
    def test_insert(self):
        house = self.house
        self.assertIsNone(house.apply(("insert", "v", "select w + 10 as k from v")))
        self.assertEqual([(None,), (None,), (1,), (2,), (11,), (12,)], house.database["v"])
        house.apply(("insert", "v", "select 2 as k from v"))
        self.assertEqual(6 + 6, len(house.database["v"]))

    def test_remove(self):
        house = self.house
        house.apply(("replace", "v", "select 1 as k from t union all select 1 as k from t union all select 2 as k from t"))
        self.assertEqual([(1,)] * 4 + [(2,)] * 2, house.database["v"])
        house.apply(("remove", "v", "select 1 as k from u union all select 9 as k from u union all select null as k from u"))
        self.assertEqual([(1,), (2,), (2,)], house.database["v"])
        house.apply(("remove", "v", "select w from v where w = 1 union all select w from v"))
        self.assertEqual([], house.database["v"])

    def test_replace(self):
        house = self.house
        house.apply(("replace", "u", "select x, s from t union all select x, s from t"))
        self.assertEqual([(1, "a"), (1, "a"), (2, "b"), (2, "b")], house.database["u"])
        house.apply(("replace", "u", "select x, s from t where x > 5"))
        self.assertEqual([], house.database["u"])

    def test_no_changes(self):
        house = self.house
        before = house.database
        self.assertIsNone(house.apply())
        self.assertEqual(before, house.database)
        self.assertEqual((("apply", (), ()),), house.steps)
        self.raises(BadParameter, {"word": "a"}, lambda: house.apply(params={"b": 1, "a": 1}))
        house.undo()
        self.assertEqual((), house.steps)

    def test_questions_see_the_database_as_it_is(self):
        house = self.house
        # The two exchange what they hold.
        house.apply(("replace", "v", "select x from u"), ("replace", "u", "select w as x, 'c' as z from v"))
        self.assertEqual([(1,), (1,), (2,)], house.database["v"])
        self.assertEqual([(None, "c"), (1, "c"), (2, "c")], house.database["u"])
        house.apply(("insert", "v", "select w from v"), ("remove", "v", "select w from v"), ("insert", "v", "select w from v"))
        self.assertEqual([(1,)] * 4 + [(2,)] * 2, house.database["v"])
        house.apply(("replace", "v", "select 5 as k from t where x = 1"), ("insert", "v", "select distinct w from v"), ("remove", "v", "select 5 as k from t"))
        self.assertEqual([(1,), (2,)], house.database["v"])

    def test_views_are_asked(self):
        house = self.house
        house.define("adult", "select x, s from t where y is not null")
        house.apply(("insert", "u", "select * from adult"))
        self.assertIn((1, "a"), house.database["u"])
        self.raises(UnknownTable, {"word": "adult"}, lambda: house.apply(("insert", "adult", "select x, s from t")))

    def test_parameters(self):
        house = self.house
        one, two = ("insert", "v", "select :p as k from t where x = :a"), ("insert", "v", "select :b as k from t where x = :p")
        house.apply(one, two, params={"p": 2, "a": 1, "b": 7})
        self.assertEqual([(None,), (1,), (2,), (2,), (7,)], house.database["v"])
        self.assertEqual((("apply", (one, two), (("a", 1), ("b", 7), ("p", 2))),), house.steps)
        self.raises(BadParameter, {"word": "p"}, lambda: house.apply(one, two))
        self.raises(BadParameter, {"word": "a"}, lambda: house.apply(one, two, params={"p": 1}))
        self.raises(BadParameter, {"word": "b"}, lambda: house.apply(one, two, params={"p": 1, "a": 1, "z": 2}))
        self.raises(BadParameter, {"word": "b"}, lambda: house.apply(two, one, params={"p": 1, "a": 1, "b": True}))
        self.raises(BadParameter, {"word": "y"}, lambda: house.apply(one, two, params={"p": 1, "a": 1, "b": 1, "z": 2, "y": 1}))
        self.raises(BadParameter, {"word": "b"}, lambda: house.apply(two, one))

    def test_values_that_are_no_changes(self):
        house = self.house
        good = ("insert", "v", "select w from v")
        bad = [thing for thing in ANYTHING if thing != good] + [
            ("insert", "v"), ("insert", "v", "select w from v", 1), ["insert", "v", "select w from v"], ("Insert", "v", "select w from v"),
            ("update", "v", "select w from v"), (None, "v", "select w from v"), (["insert"], "v", "select w from v"), ("insert", 5, "select w from v"),
            ("insert", None, "q"), ("insert", "v", None), ("insert", "v", read_question("select w from v")), ("insert", ["v"], "q"), house]
        for thing in bad:
            self.raises(InvalidChange, {"index": 0}, lambda: house.apply(thing, ("insert", "q", "q"), params={"a": 1}))
            self.raises(InvalidChange, {"index": 2}, lambda: house.apply(good, good, thing))

    def test_the_first_change_with_an_error(self):
        house = self.house
        good, several = ("insert", "v", "select w from v"), ("insert", "v", "select one (select x from u) as k from t where x = :p")
        for name in ("q", "", "T", "adult", "select"):
            self.raises(UnknownTable, {"word": name}, lambda: house.apply(good, ("insert", name, "nothing"), 5))
        self.raises(NoQuestion, {"place": 0}, lambda: house.apply(several, ("remove", "v", "nothing"), 5))
        self.raises(UnknownTable, {"word": "q"}, lambda: house.apply(good, ("replace", "v", "select w, w as k from q"), 5))
        self.raises(BadKind, {"word": "+"}, lambda: house.apply(good, ("replace", "v", "select w, s + 1 as k from v, t"), 5))
        self.raises(WrongWidth, {"index": 1}, lambda: house.apply(several, ("replace", "v", "select w, w as k from v"), 5))
        self.raises(WrongWidth, {"index": 0}, lambda: house.apply(("replace", "t", "select x, y from t"), ("replace", "v", "q"), params={"z": 1}))
        self.raises(InvalidChange, {"index": 1}, lambda: house.apply(good, 5, ("replace", "t", "select x, y from t")))
        self.raises(BadParameter, {"word": "p"}, lambda: house.apply(good, several))
        self.raises(Several, {}, lambda: house.apply(("insert", "item", "select null as k, 1 as l from v"), several, params={"p": 1}))

    def test_rows_that_are_wrong(self):
        house = self.house
        self.raises(InvalidRows, {"word": "t"}, lambda: house.apply(("insert", "v", "select s from t"), ("insert", "t", "select s, y, s as k from t")))
        self.raises(InvalidRows, {"word": "v"}, lambda: house.apply(("insert", "v", "select s from t"), ("insert", "item", "select 1 as k, 'c' as l from t")))
        # Kinds count for rows only: nulls fit both, and so does an answer without rows.
        house.apply(("insert", "u", "select x, case when x > 5 then 1 end as k from t"))
        house.apply(("insert", "v", "select s from t where x > 5"))
        # What is taken away again does not count.
        house.apply(("insert", "v", "select s from t"), ("remove", "v", "select s from t"))
        house.apply(("insert", "v", "select s from t"), ("replace", "v", "select x from t"))
        self.assertEqual([(1,), (2,)], house.database["v"])

    def test_forty_rows(self):
        house = self.house
        house.apply(("replace", "v", "select x from t"))
        for _ in range(4):
            house.apply(("insert", "v", "select w from v"))
        self.assertEqual(32, len(house.database["v"]))
        self.raises(InvalidRows, {"word": "v"}, lambda: house.apply(("insert", "v", "select w from v")))
        house.apply(("insert", "v", "select 0 as k from v, t order by k first 8"))
        self.assertEqual(40, len(house.database["v"]))
        self.raises(InvalidRows, {"word": "v"}, lambda: house.apply(("insert", "v", "select 1 as k from t where x = 1")))
        # Only at the end the number of rows counts.
        house.apply(("insert", "v", "select w from v"), ("remove", "v", "select w from v where w > 0"), ("remove", "v", "select 0 as k from v"))
        self.assertEqual(32, len(house.database["v"]))

    def test_the_first_break_at_the_end(self):
        house = self.house
        self.raises(Broken, {"found": ("key", "item", 0, (1, "a"))}, lambda: house.apply(("insert", "item", "select x, s from t")))
        self.raises(Broken, {"found": ("required", "item", 0, (None, None))}, lambda: house.apply(("insert", "item", "select null as k, null as l from v where w = 1")))
        self.raises(Broken, {"found": ("reference", "sale", 0, (1, 3))}, lambda: house.apply(("remove", "item", "select * from item")))
        house.apply(("remove", "item", "select * from item where code = 1"), ("insert", "item", "select 1 as k, 'new' as l from v where w = 1"))
        self.assertEqual([(1, "new"), (2, "ink")], house.database["item"])
        house.apply(("insert", "sale", "select 9 as k, 1 as l from v where w = 1"), ("insert", "item", "select 9 as k, 'cap' as l from v where w = 1"))
        self.assertEqual([(1, "new"), (2, "ink"), (9, "cap")], house.database["item"])
        # Too many rows come ahead of a break.
        self.raises(InvalidRows, {"word": "v"}, lambda: house.apply(("insert", "v", "select a.w from v as a, v as b, v as c, v as d"), ("insert", "item", "select x, s from t")))

    def test_drawn_changes(self):
        maker = random.Random(8)
        questions = ["select w from v", "select x from u", "select distinct x from t", "select y from t where s = 'a'", "select x + 1 as k from u where x < 3",
                     "select w from v where w = 1", "select null as k from v"]
        done = 0
        for _ in range(300):
            changes = [(maker.choice(["insert", "remove", "replace"]), maker.choice(["v", "v"]), maker.choice(questions)) for _ in range(maker.randint(0, 3))]
            before = self.house.database
            rows = before["v"]
            for word, _, text in changes:
                told = self.house.ask(text)
                if word == "insert":
                    rows = rows + told
                elif word == "replace":
                    rows = told
                else:
                    rows = list(rows)
                    for row in told:
                        if row in rows:
                            rows.remove(row)
            if len(rows) > 40:
                with self.assertRaises(InvalidRows):
                    self.house.apply(*changes)
                self.house.apply(("replace", "v", "select x from t"))
                continue
            self.house.apply(*changes)
            self.assertEqual(before.replaced(v=rows), self.house.database)
            done += 1
        self.assertGreater(done, 200)


class Steps(Told):
    CHANGE = ("insert", "v", "select x from t")

    def step_texts(self):
        house = self.house
        house.define("adult", "select x, s from t where y is not null")
        house.apply(self.CHANGE)
        house.prepare("asked", "select  x from adult")
        house.drop("asked")
        house.apply(self.CHANGE, ("replace", "u", "select x, :p as k from t"), params={"p": "c"})

    def test_steps(self):
        self.step_texts()
        told = (("define", "adult", "select x, s from t where y is not null"), ("apply", (self.CHANGE,), ()), ("prepare", "asked", "select  x from adult"),
                ("drop", "asked"), ("apply", (self.CHANGE, ("replace", "u", "select x, :p as k from t")), (("p", "c"),)))
        self.assertEqual(told, self.house.steps)
        self.house.undo()
        self.assertEqual(told[:4], self.house.steps)
        self.house.ask("select x from t")
        self.assertEqual(told[:4], self.house.steps)

    def test_undo_and_redo(self):
        house = self.house
        self.raises(NothingToUndo, {}, house.undo)
        self.raises(NothingToRedo, {}, house.redo)
        states = [self.state()]
        for call in (lambda: house.define("adult", "select x, s from t where y is not null"), lambda: house.apply(self.CHANGE),
                     lambda: house.prepare("asked", "select  x from adult"), lambda: house.apply(), lambda: house.drop("asked"), lambda: house.drop("adult")):
            call()
            states.append(self.state())
        for state in states[-2::-1]:
            self.assertIsNone(house.undo())
            self.assertEqual(state, self.state())
        self.raises(NothingToUndo, {}, house.undo)
        for state in states[1:]:
            self.assertIsNone(house.redo())
            self.assertEqual(state, self.state())
        self.raises(NothingToRedo, {}, house.redo)
        house.undo()
        house.undo()
        house.redo()
        self.assertEqual(states[-2], self.state())

    def test_a_step_removes_what_can_be_made_again(self):
        house = self.house
        for call in (lambda: house.apply(), lambda: house.define("other", "select x from t"), lambda: house.prepare("other", "select x from t"), lambda: house.drop("adult")):
            self.house = house = House(SHOP, ROWS)
            house.define("adult", "select x, s from t where y is not null")
            house.apply(self.CHANGE)
            house.undo()
            call()
            self.raises(NothingToRedo, {}, house.redo)
            house.undo()
            house.redo()
            self.raises(NothingToRedo, {}, house.redo)

    def test_refused_steps_keep_what_can_be_made_again(self):
        house = self.house
        house.define("adult", "select x, s from t where y is not null")
        house.apply(self.CHANGE)
        after = self.state()
        house.undo()
        for error, told, call in [
            (InvalidName, {"value": 5}, lambda: house.define(5, "q")), (SameName, {"word": "adult"}, lambda: house.prepare("adult", "q")),
            (NoQuestion, {"place": 0}, lambda: house.define("other", "q")), (UnknownName, {"value": "q"}, lambda: house.drop("q")),
            (InvalidChange, {"index": 0}, lambda: house.apply(5)), (InvalidRows, {"word": "v"}, lambda: house.apply(("insert", "v", "select s from t"))),
            (Broken, {"found": ("key", "item", 0, (1, "a"))}, lambda: house.apply(("insert", "item", "select x, s from t"))),
            (Several, {}, lambda: house.apply(("insert", "v", "select one (select x from u) as k from t"))), (NoQuestion, {"place": 0}, lambda: house.ask("q")),
            (UnknownName, {"value": "q"}, lambda: house.run("q")), (UnknownName, {"value": "q"}, lambda: house.plan_of("q")),
        ]:
            self.raises(error, told, call)
        house.ask("select x from adult")
        house.redo()
        self.assertEqual(after, self.state())

    def test_equal(self):
        house = self.house
        other = House(SHOP, ROWS)
        self.assertEqual(other, house)
        house.apply(self.CHANGE)
        self.assertNotEqual(other, house)
        house.apply(("remove", "v", "select x from t"))
        self.assertEqual(other, house)
        house.define("adult", "select x from t")
        self.assertNotEqual(other, house)
        other.define("adult", " select x\nfrom t")
        self.assertEqual(other, house)
        house.prepare("b", "select x from adult")
        house.prepare("a", "select x from adult")
        self.assertNotEqual(other, house)
        other.prepare("a", "select x from adult")
        self.assertNotEqual(other, house)
        other.prepare("b", "select x from t")
        self.assertNotEqual(other, house)
        other.drop("b")
        other.prepare("b", "select x from adult")
        self.assertEqual(other, house)
        for thing in ANYTHING + [house.database, house.views]:
            self.assertNotEqual(house, thing)
        # The order of views counts.
        house.define("ones", "select x from t")
        house.define("two", "select x from t")
        other.define("two", "select x from t")
        other.define("ones", "select x from t")
        self.assertNotEqual(other, house)

    def test_replayed(self):
        self.step_texts()
        house = self.house
        self.assertEqual(house, House.replayed(SHOP, ROWS, house.steps))
        self.assertEqual(house, House.replayed(SHOP, ROWS, list(house.steps)))
        self.assertEqual(house.steps, House.replayed(SHOP, ROWS, house.steps).steps)
        self.assertEqual(House(SHOP), House.replayed(SHOP, None, ()))
        again = House.replayed(SHOP, ROWS, house.steps)
        for _ in house.steps:
            again.undo()
        self.assertEqual(House(SHOP, ROWS), again)
        self.raises(NothingToUndo, {}, again.undo)
        for steps, error, told in [
            ([("drop", "q")], UnknownName, {"value": "q"}), ([("define", "a", "select q from t")], UnknownColumn, {"alias": None, "word": "q"}),
            ([("prepare", "a", "select x from t"), ("define", "a", "select x from t")], SameName, {"word": "a"}),
            ([("apply", (5,), ())], InvalidChange, {"index": 0}), ([("apply", (self.CHANGE,), (("p", 1),))], BadParameter, {"word": "p"}),
        ]:
            self.raises(error, told, lambda: House.replayed(SHOP, ROWS, steps))
        self.raises(InvalidRows, {"word": "v"}, lambda: House.replayed(SHOP, {"v": 5}, [("drop", "q")]))


class Trials(Told):
    def test_what_it_returns(self):
        house = self.house
        seen = []
        self.assertEqual(7, house.trial(lambda told: seen.append(told) or 7))
        self.assertIs(house, seen[0])
        self.assertIsNone(house.trial(lambda told: None))
        self.assertEqual([(1,), (1,), (2,), (2,), (None,)], sorted(house.trial(self.inserted), key=lambda row: (row[0] is None, row)))
        self.assertEqual([(None,), (1,), (2,)], house.ask("select w from v"))

    @staticmethod
    def inserted(house):
        house.apply(("insert", "v", "select x from t"))
        return house.ask("select w from v")

    def test_the_house_is_as_before(self):
        house = self.house
        house.define("adult", "select x, s from t where y is not null")
        house.apply(("insert", "v", "select x from t"))
        house.prepare("asked", "select x from adult")
        house.undo()
        before = self.state()

        def action(told):
            told.prepare("other", "select x from adult")
            told.apply(("replace", "v", "select x from t"))
            told.drop("other")
            told.drop("adult")
            return told.steps
        steps = house.trial(action)
        self.assertEqual(before[3], steps[:2])
        self.assertEqual(6, len(steps))
        self.assertEqual(before, self.state())
        house.redo()
        self.assertEqual({"asked": "select x from adult"}, house.prepared)
        house.undo()
        house.undo()
        house.undo()
        self.assertEqual(House(SHOP, ROWS), house)

    def test_errors_pass(self):
        house = self.house
        house.apply(("insert", "v", "select x from t"))
        house.undo()
        before = self.state()
        class Mine(BaseException):
            pass

        def action(told):
            told.define("adult", "select x from t")
            told.apply(("replace", "v", "select x from adult"))
            raise Mine()
        with self.assertRaises(Mine):
            house.trial(action)
        self.assertEqual(before, self.state())
        self.raises(UnknownName, {"value": "q"}, lambda: house.trial(lambda told: (told.define("adult", "select x from t"), told.drop("q"))))
        house.redo()
        self.assertEqual(5, len(house.database["v"]))

    def test_nothing_from_before_it(self):
        house = self.house
        house.apply(("insert", "v", "select x from t"))
        house.apply()
        house.undo()
        told = []

        def action(one):
            for call in (one.undo, one.redo):
                try:
                    call()
                except (NothingToUndo, NothingToRedo) as error:
                    told.append(type(error).__name__)
            one.define("adult", "select x from t")
            one.undo()
            try:
                one.undo()
            except NothingToUndo:
                told.append("undo")
            one.redo()
            told.append(one.views.names)
            one.undo()
            one.apply()
            try:
                one.redo()
            except NothingToRedo:
                told.append("redo")
        house.trial(action)
        self.assertEqual(["NothingToUndo", "NothingToRedo", "undo", ("adult",), "redo"], told)
        house.redo()
        self.assertEqual(2, len(house.steps))

    def test_trials_in_trials(self):
        house = self.house
        house.define("adult", "select x from t")
        before = self.state()
        told = []

        def inner(one):
            try:
                one.undo()
            except NothingToUndo:
                told.append(one.views.names)
            one.define("last", "select x from t")
            raise ValueError("inner")

        def outer(one):
            one.define("second", "select x from adult")
            one.define("third", "select x from adult")
            one.undo()
            try:
                one.trial(inner)
            except ValueError:
                told.append(one.views.names)
            one.redo()
            told.append(one.views.names)
            one.undo()
            one.undo()
            told.append(one.views.names)
            try:
                one.undo()
            except NothingToUndo:
                told.append("end")
            return one.trial(lambda most: most.trial(lambda last: len(last.steps)))
        self.assertEqual(1, house.trial(outer))
        self.assertEqual([("adult", "second"), ("adult", "second"), ("adult", "second", "third"), ("adult",), "end"], told)
        self.assertEqual(before, self.state())
        house.undo()
        self.assertEqual((), house.views.names)


class Histories(Told):
    def test_many(self):
        """A house answers, after any history, as a new one with the same tables and views [3]."""
        names = ["a", "b", "c"]
        texts = ["select x, s from t", "select w as x from v where w > 0", "select q.x from a as q", "select q.x from b as q where exists (select * from c where c.x = q.x)",
                 "select distinct x from t where y is not null", "select x from c"]
        changes = ["select w from v where w = 1", "select x from t", "select q.x from a as q where q.x = 2", "select most(w) + 1 as k from v"]
        for seed in range(60):
            maker = random.Random(seed)
            house = House(SHOP, ROWS)
            done, undone = [], []

            def state():
                return house.database, house.views, house.prepared
            for _ in range(40):
                before = state()
                word = maker.choice(["define", "prepare", "drop", "apply", "apply", "undo", "undo", "redo", "trial"])
                try:
                    if word == "define" or word == "prepare":
                        getattr(house, word)(maker.choice(names), maker.choice(texts))
                    elif word == "drop":
                        house.drop(maker.choice(names))
                    elif word == "apply":
                        house.apply(*[(maker.choice(["insert", "remove", "replace"]), "v", maker.choice(changes)) for _ in range(maker.randint(0, 2))])
                    elif word == "trial":
                        house.trial(lambda one: (one.apply(), one.undo(), one.redo(), one.drop(maker.choice(names))))
                        self.assertEqual(before, state())
                        continue
                    else:
                        getattr(house, word)()
                except (NothingToUndo, NothingToRedo):
                    self.assertEqual([], done if word == "undo" else undone)
                    continue
                except (LookupError, ValueError, RuntimeError):
                    self.assertEqual(before, state())
                    continue
                if word == "undo":
                    undone.append(before)
                    self.assertEqual(done.pop(), state())
                elif word == "redo":
                    done.append(before)
                    self.assertEqual(undone.pop(), state())
                else:
                    done.append(before)
                    undone.clear()
            self.assertEqual(len(done), len(house.steps))
            self.assertEqual(house, House.replayed(SHOP, ROWS, house.steps))
            for text in texts:
                try:
                    bound, _ = house.views.bind(read_question(text))
                except (LookupError, ValueError):
                    continue
                self.assertEqual(answer(house.database, bound), house.ask(text))
                self.assertEqual(house.ask(text), run(house.database, flat(compiled(SHOP, bound))))


if __name__ == "__main__":
    unittest.main()
