"""Views [65]."""

import random
import unittest

from innerasks.binding import bind
from innerasks.errors import (
    Ambiguous, BadGroup, BadKind, BadParameter, BadShape, InUse, InvalidName, SameName, UnknownColumn, UnknownTable, UnknownView,
)
from innerasks.plain import answer
from innerasks.reader import read_question
from innerasks.views import Views
from innerasks.writer import write_question
from asking import BASE, bound, outcome
from drawn_questions import Drawer, drawn_database
from samples import ANYTHING, ASKED
from test_facts import KEYED

ADULT = read_question("select x, s from t where y is not null")
NEAR = read_question("select a.x, u.z as k from adult as a join u on a.x = u.x")
VIEWS = Views(ASKED, ("adult", ADULT), ("near", NEAR))
ADULT_TEXT = "select x, s from t where y is not null"
NEAR_TEXT = f"select a.x, u.z as k from ({ADULT_TEXT}) as a join u on a.x = u.x"

# Every place in which a source can stand, VIEW is that of a view.
PLACES = [
    "select q.x from VIEW as q", "select q.x from t cross join VIEW as q", "select q.x from VIEW as q join t on t.x = q.x",
    "select q.x from t left join VIEW as q on t.x = q.x", "select q.x from (t full join (v join VIEW as q on w = q.x) on t.x = w)",
    "select a.x from (select q.x from VIEW as q) as a", "select x from t union select q.x from VIEW as q", "select q.x from VIEW as q except all select x from t",
    "select q.x from VIEW as q order by x desc first 1", "(select q.x from VIEW as q) intersect (select x from u)",
    "select one (select most(q.x) as k from VIEW as q) as k from t", "select x from t where exists (select * from VIEW as q where q.x = t.x)",
    "select x from t where x in (select q.x from VIEW as q)", "select x from t where x > any (select q.x from VIEW as q)",
    "select x from t where not (x <= all (select q.x from VIEW as q) or y is null)", "select x, count(*) as n from t group by x having x in (select q.x from VIEW as q)",
    "select count(case when exists (select q.x from VIEW as q where q.x = t.y) then 1 end) as n from t", "select sum(one (select most(q.x) as k from VIEW as q)) as n from t",
    "select w from v join u on u.x = w and exists (select q.x from VIEW as q where q.x = w)",
    "select coalesce(one (select most(q.x) as k from VIEW as q), 1) + 1 as k from t", "select case when x in (select q.x from VIEW as q) then 1 else one (select least(q.x) as k from VIEW as q) end as k from t",
    "select x from t where - one (select sum(q.x) as k from VIEW as q) < x * one (select count(q.x) as k from VIEW as q)",
    "select x from t where one (select sum(q.x) as k from VIEW as q) is null", "select x from t where x is one (select sum(q.x) as k from VIEW as q)",
    "select q.x from VIEW as q, VIEW as r where q.x = r.x", "select x from t where exists (select * from v where exists (select * from VIEW as q where q.x = t.x and q.x = w))",
]


class Told(unittest.TestCase):
    def raises(self, error, told, call):
        with self.assertRaises(error) as caught:
            call()
        self.assertEqual(told, vars(caught.exception))


class Constructed(Told):
    def test_properties(self):
        self.assertEqual(ASKED, VIEWS.schema)
        self.assertEqual(("adult", "near"), VIEWS.names)
        self.assertEqual(2, len(VIEWS))
        self.assertEqual((), Views(ASKED).names)
        self.assertEqual(0, len(Views(ASKED)))
        for thing in ANYTHING + ["t", "u", "adul", "Adult", VIEWS, ["adult"], ("adult",), ADULT]:
            self.assertIs(False, thing in VIEWS)
        self.assertIs(True, "adult" in VIEWS)
        self.assertIs(True, "near" in VIEWS)

    def test_equal(self):
        self.assertEqual(VIEWS, Views(ASKED, ("adult", ADULT), ("near", NEAR)))
        self.assertEqual(VIEWS, Views(ASKED).added("adult", ADULT).added("near", NEAR))
        for other in (Views(ASKED), Views(ASKED, ("adult", ADULT)), Views(ASKED, ("adult", ADULT), ("far", NEAR)),
                      Views(ASKED, ("adult", ADULT), ("near", read_question("select x, z as k from u"))), "adult", None, ASKED):
            self.assertNotEqual(VIEWS, other)
        self.assertNotEqual(Views(ASKED), Views(KEYED))
        self.assertNotEqual(VIEWS, Views(KEYED, ("adult", ADULT), ("near", NEAR)))
        one, other = ("ones", read_question("select x from t")), ("other", read_question("select w from v"))
        self.assertNotEqual(Views(ASKED, one, other), Views(ASKED, other, one))

    def test_names(self):
        for thing in ANYTHING + ["abcdefghijklm", "select", "self", "a b", 7, ["adult"], ("adult",), ADULT, VIEWS]:
            if isinstance(thing, str) and thing in ("x", "t", "whole", "abcdefghijkl"):
                continue
            self.raises(InvalidName, {"value": thing}, lambda: Views(ASKED, ("adult", ADULT), (thing, ("nothing",))))
            self.raises(InvalidName, {"value": thing}, lambda: VIEWS.added(thing, read_question("select q from q")))
        for name in ("t", "u", "v", "adult", "near"):
            self.raises(SameName, {"word": name}, lambda: VIEWS.added(name, read_question("select q from q where :p")))
        self.raises(SameName, {"word": "near"}, lambda: Views(ASKED, ("adult", ADULT), ("near", NEAR), ("near", ADULT), (5, ADULT)))

    def test_what_bind_raises(self):
        for text, error, told in [
            ("select x from later", UnknownTable, {"word": "later"}), ("select x from mine", UnknownTable, {"word": "mine"}),
            ("select q from t", UnknownColumn, {"alias": None, "word": "q"}), ("select t.w from t", UnknownColumn, {"alias": "t", "word": "w"}),
            ("select x from t, u", Ambiguous, {"word": "x"}), ("select x, x from t", SameName, {"word": "x"}), ("select x from t group by y", BadGroup, {"word": "x"}),
            ("select x + s as k from t", BadKind, {"word": "+"}), ("select x from t where x in (select * from u)", BadShape, {"word": "in"}),
            ("select y from adult", UnknownColumn, {"alias": None, "word": "y"}), ("select x from adult where s = 1", BadKind, {"word": "="}),
        ]:
            question = read_question(text)
            self.raises(error, told, lambda: Views(ASKED, ("adult", ADULT), ("mine", question), ("later", ADULT)))
            self.raises(error, told, lambda: VIEWS.added("mine", question))
            # Ahead of a parameter, which is none of bind's matters.
            with_param = read_question(text.replace("select ", "select :p as pq, ", 1))
            if error not in (BadShape,):
                self.raises(error, told, lambda: VIEWS.added("mine", with_param))

    def test_parameters(self):
        for text, name in [("select :p as k from t", "p"), ("select x from t where x = :q and y = :p", "q"), ("select one (select :z as k from v) as k, :a as l from t", "z"),
                           ("select x from (select x from u where z = :b) as a where x = :a", "b"), ("select x as k from t union select :c as k from u where x = :a", "c"),
                           ("select x, :b as k from (select :a as x from t) as q", "b")]:
            self.raises(BadParameter, {"word": name}, lambda: Views(ASKED, ("adult", ADULT), ("mine", read_question(text)), ("t", ADULT)))
        # No parameters, whatever it looks like.
        for text in ["select x as param from t order by param", "select x as param from t order by param desc first 2",
                     "select ':p' as k from t", "select param.x from t as param where param.y = 1"]:
            question = read_question(text)
            views = VIEWS.added("mine", question)
            asked = read_question("select * from mine as q")
            self.assertEqual(bind(ASKED, ("select", False, None, ("question", question, "q"), None, None, None)), views.bind(asked))

    def test_the_first_wrong_view(self):
        good, bad, param = ("a", ADULT), ("b", read_question("select q from t")), ("c", read_question("select :p as k from t"))
        self.raises(UnknownColumn, {"alias": None, "word": "q"}, lambda: Views(ASKED, good, bad, param, (3, ADULT)))
        self.raises(BadParameter, {"word": "p"}, lambda: Views(ASKED, good, param, bad, (3, ADULT)))
        self.raises(InvalidName, {"value": 3}, lambda: Views(ASKED, good, (3, ADULT), param, bad))
        self.raises(SameName, {"word": "a"}, lambda: Views(ASKED, good, ("a", param[1]), bad))


class Expanded(Told):
    def test_alias(self):
        for text, told in [
            ("select adult.x from adult", f"select adult.x from ({ADULT_TEXT}) as adult"), ("select q.x from adult as q", f"select q.x from ({ADULT_TEXT}) as q"),
            ("select x from t as adult", "select x from t as adult"), ("select adult as near from (select x as adult from t) as near", "select adult as near from (select x as adult from t) as near"),
            ("select near.k from near", f"select near.k from ({NEAR_TEXT}) as near"),
        ]:
            question = VIEWS.expanded(read_question(text))
            self.assertEqual(told, write_question(question))
            self.assertEqual(read_question(told), question)

    def test_every_place(self):
        maker = random.Random(1)
        bases = [BASE] + [drawn_database(maker) for _ in range(3)]
        for text in PLACES:
            for name, whole in (("adult", ADULT_TEXT), ("near", NEAR_TEXT)):
                question = read_question(text.replace("VIEW", name))
                told = read_question(text.replace("VIEW", f"({whole})"))
                self.assertEqual(told, VIEWS.expanded(question), text)
                self.assertEqual(bind(ASKED, told), VIEWS.bind(question))
                self.assertEqual(told, VIEWS.expanded(told))
                for base in bases:
                    self.assertEqual(outcome(lambda: answer(base, bind(ASKED, told)[0])), outcome(lambda: answer(base, VIEWS.bind(question)[0])))

    def test_bind(self):
        self.assertEqual(bind(ASKED, read_question("select x from t")), VIEWS.bind(read_question("select x from t")))
        question, columns = VIEWS.bind(read_question("select * from near"))
        self.assertEqual((("x", "whole"), ("k", "text")), columns)
        self.assertEqual([(1, "a"), (1, "a"), (1, "b"), (1, "b")], answer(BASE, question))
        self.raises(UnknownTable, {"word": "far"}, lambda: VIEWS.bind(read_question("select x from far")))
        self.raises(UnknownColumn, {"alias": "near", "word": "y"}, lambda: VIEWS.bind(read_question("select near.y from near")))
        self.raises(UnknownColumn, {"alias": "adult", "word": "x"}, lambda: VIEWS.bind(read_question("select adult.x from adult as q")))
        self.raises(SameName, {"word": "adult"}, lambda: VIEWS.bind(read_question("select 1 as k from adult, t as adult")))
        self.raises(Ambiguous, {"word": "x"}, lambda: VIEWS.bind(read_question("select x from adult, near")))
        # Parameters may be there, around views.
        self.assertEqual([("a",)], answer(BASE, VIEWS.bind(read_question("select distinct s from adult where x = :p"))[0], params={"p": 1}))

    def test_a_view_does_not_see_what_is_around_it(self):
        self.raises(UnknownColumn, {"alias": None, "word": "w"}, lambda: VIEWS.added("mine", read_question("select x from t where x = w")))
        self.raises(UnknownColumn, {"alias": "v", "word": "w"}, lambda: VIEWS.added("mine", read_question("select x from t where x = v.w")))
        # Its own columns are those of its own sources, also where there are others of the same names around it.
        views = VIEWS.added("mine", read_question("select x as k from u where exists (select * from t where t.x = u.x and y is not null)"))
        question, _ = views.bind(read_question("select x, y from t where exists (select * from mine where k = t.x)"))
        self.assertEqual([(1, 10), (1, 10)], answer(BASE, question))
        views = VIEWS.added("mine", read_question("select x as k from u as t where t.z = 'a'"))
        question, _ = views.bind(read_question("select x, y from t where exists (select * from mine where k = t.x)"))
        self.assertEqual([(1, 10), (1, 10)], answer(BASE, question))

    def test_views_of_views(self):
        views = VIEWS.added("far", read_question("select x from near union select x from adult union select x from u"))
        views = views.added("many", read_question("select count(*) as n from far"))
        told = f"select count(*) as n from (select x from ({NEAR_TEXT}) as near union select x from ({ADULT_TEXT}) as adult union select x from u) as far"
        self.assertEqual(f"select n from ({told}) as many", write_question(views.expanded(read_question("select n from many"))))
        self.assertEqual([(3,)], answer(BASE, views.bind(read_question("select n from many"))[0]))

    def test_drawn_views(self):
        many = 0
        for seed in range(300):
            drawer = Drawer(seed)
            inner = drawer.question([], 2, ["whole", "text"])
            try:
                views = Views(ASKED, ("mine", inner))
            except ValueError:
                continue
            names = [drawer.pick("q", "mine"), "r"]
            text = f"select {names[0]}.a from mine as {names[0]} left join (select * from t, mine as r where r.a = t.x) as e on e.a = {names[0]}.a where exists (select * from mine where mine.b is s)"
            try:
                told = views.bind(read_question(text))
            except (ValueError, LookupError):
                continue
            whole = write_question(inner)
            other = bind(ASKED, read_question(text.replace("from mine as", f"from ({whole}) as").replace(", mine as r", f", ({whole}) as r").replace("from mine where", f"from ({whole}) as mine where")))
            self.assertEqual(other, told)
            many += 1
        self.assertGreater(many, 200)


class Changed(Told):
    def test_added(self):
        question = read_question("select adult.x from adult")
        more = VIEWS.added("last", question)
        self.assertEqual(("adult", "near", "last"), more.names)
        self.assertEqual(("adult", "near"), VIEWS.names)
        self.assertEqual(Views(ASKED, ("adult", ADULT), ("near", NEAR), ("last", question)), more)

    def test_dropped(self):
        self.assertEqual(Views(ASKED, ("adult", ADULT)), VIEWS.dropped("near"))
        self.assertEqual(Views(ASKED), VIEWS.dropped("near").dropped("adult"))
        self.assertEqual(2, len(VIEWS))
        self.raises(InUse, {"word": "near"}, lambda: VIEWS.dropped("adult"))
        more = VIEWS.added("last", read_question("select adult.x from adult"))
        self.raises(InUse, {"word": "near"}, lambda: more.dropped("adult"))
        self.raises(InUse, {"word": "last"}, lambda: more.dropped("near").dropped("adult"))
        self.assertEqual(("near", "last"), Views(ASKED, ("adult", ADULT), ("near", ADULT), ("last", ADULT)).dropped("adult").names)
        for thing in ANYTHING + ["t", "u", "Near", "nea", ["near"], ("near",), VIEWS, NEAR]:
            self.raises(UnknownView, {"value": thing}, lambda: VIEWS.dropped(thing))

    def test_in_use_at_every_place(self):
        for text in PLACES:
            views = VIEWS.added("last", read_question("select 1 as k from v")).added("user", read_question(text.replace("VIEW", "near")))
            self.raises(InUse, {"word": "user"}, lambda: views.dropped("near"))
            self.assertEqual(("adult", "near", "user"), views.dropped("last").names)
        # An alias, a column, a name of an item are no use.
        views = Views(ASKED, ("adult", ADULT), ("user", read_question("select adult.x as adult from t as adult where adult.y = 1 order by adult")))
        self.assertEqual(("user",), views.dropped("adult").names)

    def test_nothing_is_changed(self):
        listed = [("adult", ADULT), ("near", NEAR)]
        views = Views(ASKED, *listed)
        views.expanded(NEAR), views.bind(NEAR), views.added("last", NEAR), views.dropped("near")
        self.assertEqual([("adult", ADULT), ("near", NEAR)], listed)
        self.assertEqual(VIEWS, views)


if __name__ == "__main__":
    unittest.main()
