"""The order of an answer [35, 43, 45]: only a question that ends in `order by` has one of its own."""

import random
import unittest

from innerasks.binding import bind
from innerasks.compiling import compiled
from innerasks.flattening import flat
from innerasks.lotplans import First
from innerasks.plain import answer
from innerasks.reader import read_question
from innerasks.running import run
from innerasks.values import in_order
from asking import BASE, EMPTY, bound, outcome
from drawn_questions import Drawer, drawn_database
from samples import ASKED

# Questions without an order of their own; those within them have one.
UNORDERED = [
    "select q.x from (select x from t order by x desc) as q", "select * from (select x, y from t order by y desc) as q",
    "select * from (select x, y from t order by x desc first 2) as q", "select q.y, q.x from (select x, y from t order by y desc) as q",
    "select r.x from (select q.x from (select x from t order by x desc) as q) as r",
    "select * from (select * from (select * from v order by w desc) as q) as r",
    "select * from (select x from t where x in (select w from v) order by x desc) as q",
    "select * from (select w from v union all select x from u order by w desc) as q",
    "select * from ((select w from v order by w) order by w desc first 2) as q", "select distinct * from (select w from v order by w desc) as q",
    "select * from (select w from v order by w desc) as q where exists (select * from u where u.x = w)",
    "(select w from v order by w desc) union all (select x from u order by x desc)",
    "(select w from v order by w desc) except all (select x from u order by x desc first 1)",
    "(select w from v order by w desc) intersect all (select x from u order by x desc)",
    "select * from (select w from v order by w desc) as q cross join (select x from u order by x desc) as r",
    "select q.w, one (select x from u order by x desc first 1) as k from (select w from v order by w desc) as q",
    "select q.w, count(*) as n from (select w from v order by w desc) as q group by q.w",
]


class Orders(unittest.TestCase):
    def compare(self, question, bases):
        plan = compiled(ASKED, question)
        for base in bases:
            expected = outcome(lambda: answer(base, question))
            self.assertEqual(expected, outcome(lambda: run(base, plan)))
            self.assertEqual(expected, outcome(lambda: run(base, flat(plan))))
            if question[0] != "first" and expected != "several":
                self.assertEqual(in_order(expected), expected)
        is_ordered = isinstance(plan, First) and plan.by == ()
        self.assertEqual(question[0] == "first", is_ordered)
        told = flat(plan)
        self.assertEqual(is_ordered, isinstance(told, First) and told.by == ())

    def test_without_an_order_of_their_own(self):
        maker = random.Random(4)
        bases = [BASE, EMPTY] + [drawn_database(maker) for _ in range(4)]
        for text in UNORDERED:
            with self.subTest(text):
                self.compare(bound(text), bases)

    def test_with_an_order_of_their_own(self):
        self.assertEqual([(2,), (1,), (None,)], run(BASE, compiled(ASKED, bound("select w from v order by w desc"))))
        for text in ["select w from v order by w desc", "(select w from v order by w desc)", "((select w from v) order by w desc first 2)",
                     "(select w from v order by w) order by w desc", "select * from (select w from v order by w) as q order by w desc"]:
            with self.subTest(text):
                self.compare(bound(text), [BASE, EMPTY])

    def test_drawn_questions_within_others(self):
        many = 0
        for seed in range(600):
            drawer = Drawer(seed)
            kinds = drawer.kinds()
            inner = drawer.question([], 2, kinds)
            keys = tuple((name, drawer.chance(0.7)) for name in "abc"[:len(kinds)])
            ordered = ("first", inner, keys, drawer.pick(None, None, 1, 2))
            question = ("select", False, None, ("question", ordered, "q"), None, None, None)
            if drawer.chance(0.3):
                question = ("select", False, None, ("question", question, "r"), None, None, None)
            try:
                question, _ = bind(ASKED, question)
            except ValueError:
                continue
            maker = random.Random(seed)
            self.compare(question, [drawn_database(maker, 4) for _ in range(2)])
            many += 1
        self.assertGreater(many, 500)

    def test_the_plan_of_a_select_is_not_that_of_its_source(self):
        question = bind(ASKED, read_question("select q.w from (select w from v order by w desc) as q"))[0]
        self.assertEqual([(None,), (1,), (2,)], answer(BASE, question))
        self.assertEqual([(None,), (1,), (2,)], run(BASE, compiled(ASKED, question)))


if __name__ == "__main__":
    unittest.main()
