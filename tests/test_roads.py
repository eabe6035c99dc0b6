"""Roads [54]: steps one after the other, the road home, the shortest road between two plans."""

import random
import time
import unittest

from innerasks.compiling import compiled
from innerasks.errors import InvalidCount, NoRoad, TooMany
from innerasks.flattening import flat
from innerasks.lotplans import First, Group, Number
from innerasks.pairplans import Depend, Join, Union
from innerasks.plans import Compute, Distinct, Filter, Keep, Scan
from innerasks.roads import follow, home, is_road, road_between
from innerasks.rules import Rule, all_places
from innerasks.running import run
from asking import BASE, bound, outcome
from drawn_plans import PlanDrawer
from samples import ANYTHING, ASKED
from shaped_plans import SHAPES, ShapeDrawer
from test_compiling import INNER
from test_facts import KEYED, column, equal, value
from test_rules import A, ALWAYS, B, C, NEVER, T, U, V, W, all_of, depend, join

SETTLING = (
    "idle", "vain", "merge", "once", "free", "left inner", "full left", "full right", "single left", "join gone", "null anti",
    "mark semi", "mark anti", "one keep", "no keep", "less", "no number", "one compute", "no order", "lots",
)


def home_told(plan):
    """The road home, as point 54 tells it."""
    road = []
    while True:
        steps = [(name, path) for name in SETTLING for path, _ in plan.walk() if Rule(name).fits(KEYED, plan, path)]
        if not steps:
            return plan, road
        road.append(steps[0])
        plan = Rule(steps[0][0]).laid(KEYED, plan, steps[0][1])


def roads_told(plan, steps):
    """All roads with so many steps, in order, and the plans to which they lead."""
    roads = [([], plan)]
    for _ in range(steps):
        roads = [(road + [step], Rule(step[0]).laid(KEYED, told, step[1])) for road, told in roads for step in all_places(KEYED, told)]
    return roads


def code(plan):
    return tuple((path, type(node).__name__, node.fields) for path, node in plan.walk())


def met_between(one, other, steps):
    """How many plans are met ahead of the other, and the road to it or None."""
    met, level = {code(one)}, [([], one)]
    if one == other:
        return 1, []
    for _ in range(steps):
        beyond = []
        for road, plan in level:
            for name, path in all_places(KEYED, plan):
                made = Rule(name).laid(KEYED, plan, path)
                if made == other:
                    return len(met), road + [(name, path)]
                if code(made) not in met:
                    met.add(code(made))
                    beyond.append((road + [(name, path)], made))
        level = beyond
    return len(met), None


class Follow(unittest.TestCase):
    PLAN = Filter(Filter(T, all_of(A, B)), C)

    def test_roads(self):
        road = [("merge", ()), ("split", ()), ("split", (0,))]
        there = Filter(Filter(Filter(T, C), B), A)
        for told in (road, tuple(road)):
            self.assertEqual(there, follow(KEYED, self.PLAN, told))
            self.assertIs(True, is_road(KEYED, self.PLAN, there, told))
        self.assertEqual(self.PLAN, follow(KEYED, self.PLAN, []))
        self.assertEqual(self.PLAN, follow(KEYED, self.PLAN, ()))
        self.assertIs(True, is_road(KEYED, self.PLAN, self.PLAN, []))
        self.assertIs(False, is_road(KEYED, self.PLAN, there, road[:2]))
        self.assertIs(False, is_road(KEYED, self.PLAN, there, []))
        self.assertEqual([("merge", ()), ("split", ()), ("split", (0,))], road)

    def no_road(self, road, index):
        with self.assertRaises(NoRoad) as caught:
            follow(KEYED, self.PLAN, road)
        self.assertEqual(index, caught.exception.index)
        self.assertIs(False, is_road(KEYED, self.PLAN, self.PLAN, road))

    def test_values_that_are_no_roads(self):
        for thing in ANYTHING + [T, Rule("merge"), "merge", {("merge", ()): 1}]:
            if not isinstance(thing, (list, tuple)):
                self.no_road(thing, 0)

    def test_steps_that_are_none(self):
        bad = [thing for thing in ANYTHING] + [
            ["merge", ()], ("merge",), ("merge", (), 1), ("merge", []), ("merge", [()]), ("Merge", ()), ("merge", (0, 0, 0)), ("merge", (0, 0)),
            ("merge", None), (None, ()), (["merge"], ()), ("merge", (False,)), (Rule("merge"), ()), ("merge", "()"), ("idle", ()), T,
        ]
        for step in bad:
            self.no_road([step], 0)
            self.no_road([("merge", ()), ("split", ()), step], 2)
            self.no_road((("merge", ()), step, step), 1)

    def test_many_steps(self):
        # Back and forth: merge, then split again; the parts come in another order.
        plan = Filter(Filter(T, A), B)
        around = [("merge", ()), ("split", ())]
        self.assertEqual(plan, follow(KEYED, plan, around * 200))
        for many in (401, 402, 500):
            with self.assertRaises(NoRoad) as caught:
                follow(KEYED, plan, (around * 250)[:many])
            self.assertEqual(400, caught.exception.index)
        self.assertIs(True, is_road(KEYED, plan, plan, around * 200))
        self.assertIs(False, is_road(KEYED, plan, plan, around * 201))
        # A step that does not fit comes first, where it does.
        for index in (0, 7, 399):
            road = around * 250
            road[index] = ("idle", ())
            with self.assertRaises(NoRoad) as caught:
                follow(KEYED, plan, road)
            self.assertEqual(index, caught.exception.index)
        road = around * 200 + ["nothing"]
        with self.assertRaises(NoRoad) as caught:
            follow(KEYED, plan, road)
        self.assertEqual(400, caught.exception.index)

    def test_steps_with_conditions(self):
        # The step fits only in the plan to which the steps ahead of it lead.
        plan = Keep(join("single"), (1, 2))
        self.assertEqual(Keep(T, (1, 2)), follow(KEYED, plan, [("single left", (0,)), ("join gone", ())]))
        self.no_road([("single left", (0,)), ("merge", ())], 0)


class Home(unittest.TestCase):
    def check(self, schema, plan):
        settled, road = home(schema, plan)
        self.assertIsInstance(road, list)
        self.assertEqual(settled, follow(schema, plan, road))
        self.assertIs(True, is_road(schema, plan, settled, road))
        for name in SETTLING:
            self.assertEqual([], list(Rule(name).places(schema, settled)))
        self.assertEqual((settled, []), home(schema, settled))
        return settled, road

    def test_words(self):
        self.assertEqual((T, []), home(KEYED, T))
        self.assertEqual((T, [("idle", ())]), home(KEYED, Filter(T, ALWAYS)))
        plan = Keep(Filter(Filter(Depend("left", T, U, equal(1, 4)), ALWAYS), A), (1, 2))
        self.assertEqual((Keep(Filter(join("left"), A), (1, 2)), [("idle", (0, 0)), ("free", (0, 0))]), home(KEYED, plan))
        # The rules come in the order of point 54, not in that of the table.
        plan = Join("inner", Filter(join("left"), ("=", column(4), value(1))), Distinct(Scan("u", (20, 21))), ALWAYS)
        self.assertEqual([("left inner", (0,)), ("once", (1,))], [step for step in all_places(KEYED, plan) if step[0] in ("left inner", "once")])
        self.assertEqual([("once", (1,)), ("left inner", (0,))], home(KEYED, plan)[1])
        plan = Distinct(Filter(Keep(Depend("left", T, U, equal(1, 4)), (1, 2, 3, 4, 5)), ("=", column(4), value(1))))
        # Only in an inner join x is never null, and so a key.
        self.assertEqual([("free", (0, 0, 0)), ("no keep", (0, 0)), ("left inner", (0,)), ("once", ())], home(KEYED, plan)[1])
        plan = Union(Filter(Filter(T, A), NEVER), Keep(First(Filter(T, ALWAYS), (), None), (1, 2, 3)), (7, 8, 9))
        self.assertEqual([("idle", (1, 0, 0)), ("vain", (0,)), ("no keep", (1,)), ("no order", (1,))], home(KEYED, plan)[1])

    def test_every_rule_of_the_list_is_laid(self):
        laid = set()
        for plan in [
            Filter(T, ALWAYS), Filter(T, NEVER), Filter(Filter(T, A), C), Distinct(U), depend("inner"), Filter(join("left"), ("=", column(4), value(1))),
            Filter(join("full"), A), Filter(join("full"), ("=", column(4), value(1))), join("single"), Keep(join("left"), (1,)),
            Keep(Filter(join("left"), ("null", column(4))), (1,)), Keep(Filter(join("mark"), ("truth", 9)), (1,)),
            Keep(Filter(join("mark", condition=equal(2, 4)), ("not", ("truth", 9))), (1,)), Keep(Keep(T, (1, 2)), (1,)), Keep(T, (1, 2, 3)),
            Keep(Compute(T, [(8, A)]), (1,)), Keep(Number(T, 8), (1,)), Compute(Compute(T, [(8, A)]), [(9, B)]), First(T, (), None, (1,)), Group(T, (3,), ()),
        ]:
            laid |= {name for name, _ in self.check(KEYED, plan)[1]}
            self.assertEqual(home_told(plan), home(KEYED, plan))
        self.assertEqual(set(SETTLING), laid)

    def test_drawn_plans(self):
        steps = 0
        for seed in range(250):
            plan = PlanDrawer(seed).plan(3 + seed % 3, {})[0] if seed % 2 else ShapeDrawer(seed).shaped(SHAPES[seed // 2 % len(SHAPES)], {})[0]
            settled, road = self.check(KEYED, plan)
            self.assertEqual(home_told(plan), (settled, road))
            steps += len(road)
        self.assertGreater(steps, 300)

    def test_an_order_stays(self):
        plan = First(Filter(Keep(First(V, (), None), (6,)), ALWAYS), [(6, True)], None)
        self.assertEqual((First(V, [(6, True)], None), [("idle", (0,)), ("no keep", (0,)), ("no order", (0,))]), home(KEYED, plan))
        plan = Keep(First(V, [(6, True)], None), (6,))
        # A Keep that would leave the whole plan an order waits.
        self.assertEqual((V, [("no order", (0,)), ("no keep", ())]), home(KEYED, plan))
        kept = Keep(First(V, [(6, True)], 2), (6,))
        self.assertEqual((kept, []), home(KEYED, kept))

    def test_questions(self):
        for text in INNER:
            plan = flat(compiled(ASKED, bound(f"select x, y from t where {text}")))
            settled, road = home(ASKED, plan)
            self.assertEqual(settled, follow(ASKED, plan, road))
            self.assertEqual(outcome(lambda: run(BASE, plan)), outcome(lambda: run(BASE, settled)))
        question = ("select x from t where y > all (select x from u where z = t.s and x < any (select w from v where w = t.x and w >= all "
                    "(select b.x from t as b where b.s = u.z and b.y = t.y)))")
        plan = compiled(ASKED, bound(question))
        begin = time.process_time()
        home(ASKED, flat(plan))
        list(all_places(ASKED, flat(plan)))
        self.assertLess(time.process_time() - begin, 2)


class Between(unittest.TestCase):
    def between(self, one, other, steps=3):
        return road_between(KEYED, one, other, steps=steps)

    def test_words(self):
        plan = Filter(Filter(T, A), B)
        self.assertEqual([], self.between(plan, plan))
        self.assertEqual([], self.between(plan, plan, 0))
        self.assertEqual([("merge", ())], self.between(plan, Filter(T, all_of(A, B))))
        self.assertIsNone(self.between(plan, Filter(T, all_of(A, B)), 0))
        self.assertIsNone(self.between(plan, Filter(T, all_of(B, A)), 2))
        self.assertEqual([("merge", ()), ("split", ()), ("merge", ())], self.between(plan, Filter(T, all_of(B, A))))
        self.assertEqual([("merge", ()), ("split", ())], road_between(KEYED, Filter(Filter(T, B), A), Filter(Filter(T, A), B)))
        self.assertIsNone(self.between(T, U, 4))
        self.assertIsInstance(self.between(plan, Filter(T, all_of(A, B))), list)

    def test_three_steps_if_not_told(self):
        plan = Filter(Filter(Filter(Filter(Filter(V, equal(6, 6)), equal(6, 6)), equal(6, 6)), equal(6, 6)), equal(6, 6))
        there = Filter(V, all_of(*[equal(6, 6)] * 5))
        self.assertIsNone(road_between(KEYED, plan, there))
        self.assertIsNone(self.between(plan, there, 3))
        self.assertEqual([("merge", ())] * 4, self.between(plan, there, 4))
        four = plan.plan
        self.assertEqual([("merge", ())] * 3, road_between(KEYED, four, Filter(V, all_of(*[equal(6, 6)] * 4))))

    def test_the_first_of_the_shortest(self):
        one = Union(Filter(T, ALWAYS), Filter(T, ALWAYS), (7, 8, 9))
        self.assertEqual([("idle", (0,)), ("idle", (1,))], self.between(one, Union(T, T, (7, 8, 9))))
        # By the place of its path first, then by the table.
        one = Filter(Filter(V, ALWAYS), ALWAYS)
        self.assertEqual([("merge", ())], self.between(one, Filter(V, ALWAYS)))
        self.assertEqual([("merge", ()), ("idle", ())], self.between(one, V))
        for seed in range(60):
            plan = PlanDrawer(seed).plan(3, {})[0]
            roads = roads_told(plan, 1)
            if len(roads) > 12:
                continue
            roads = [([], plan)] + roads + roads_told(plan, 2)
            firsts = {}
            for road, there in roads:
                firsts.setdefault(code(there), (road, there))
            for road, there in list(firsts.values())[:25]:
                try:
                    self.assertEqual(road, self.between(plan, there, 2), seed)
                except TooMany:
                    self.fail(seed)

    def test_steps(self):
        for steps in ANYTHING + [-1, 5, 10, 2.0, "3"]:
            if isinstance(steps, int) and not isinstance(steps, bool) and 0 <= steps <= 4:
                continue
            for other in (T, U):
                with self.assertRaises(InvalidCount) as caught:
                    road_between(KEYED, T, other, steps=steps)
                self.assertIs(steps, caught.exception.value)
        for steps in range(5):
            self.assertEqual([], road_between(KEYED, T, T, steps=steps))
            self.assertIsNone(road_between(KEYED, T, U, steps=steps))

    def test_too_many(self):
        plan = Join("inner", Join("inner", Join("inner", T, U, equal(1, 4)), V, equal(4, 6)), W, equal(6, 7))
        with self.assertRaises(TooMany) as caught:
            self.between(plan, T, 4)
        self.assertEqual(400, caught.exception.limit)
        # With few steps few plans are met.
        self.assertLess(met_between(plan, T, 1)[0], 50)
        self.assertIsNone(self.between(plan, T, 1))
        # A plan that comes ahead of the 401st is found, one that comes behind it is not.
        maker = random.Random(1)
        found = missed = 0
        for many in [1, 2, 2, 3, 3, 3, 4, 4, 4, 4] * 3:
            there = plan
            for _ in range(many):
                name, path = maker.choice(list(all_places(KEYED, there)))
                there = Rule(name).laid(KEYED, there, path)
            ahead, told = met_between(plan, there, 4)
            if ahead <= 400:
                self.assertEqual(told, self.between(plan, there, 4))
                found += 1
            else:
                missed += 1
                with self.assertRaises(TooMany):
                    self.between(plan, there, 4)
        self.assertGreater(found, 10)
        self.assertGreater(missed, 1)


if __name__ == "__main__":
    unittest.main()
