"""Each rule keeps the answer [3, 53]: many drawn plans, on databases that keep the schema."""

import random
import unittest
from collections import Counter

from innerasks.parting import Store
from innerasks.roads import follow, home
from innerasks.rules import Rule, all_places
from innerasks.running import run
from innerasks.schemas import Column, Schema, Table
from asking import outcome
from drawn_plans import PlanDrawer, around
from drawn_questions import drawn_value
from shaped_plans import SHAPES, ShapeDrawer
from test_facts import KEYED
from test_facts_drawn import keyed_database

# So few rows and values that all databases can be looked at.
SMALL = Schema(
    Table("t", [Column("x", "whole"), Column("y", "whole", required=True), Column("s", "text")], unique=[("x",), ("y", "s")]),
    Table("u", [Column("x", "whole", required=True), Column("z", "text")], unique=[("x",)]),
    Table("v", [Column("w", "whole")]),
)


class Kept(unittest.TestCase):
    def setUp(self):
        self.laid = Counter()
        self.outcomes = Counter()

    def worlds(self, maker, known, bases):
        """Databases, each with values for the free columns."""
        told = []
        for base in bases:
            rows = [tuple(drawn_value(maker, "text" if kind == "text" else "whole") for kind in known.values())
                    for _ in range(maker.randint(1, 2))]
            told.append((base, rows))
        return told

    def check(self, plan, known, worlds):
        def answers(told):
            if known:
                return [outcome(lambda: run(base, around(known, told, rows))) for base, rows in worlds]
            return [outcome(lambda: run(base, told)) for base, _ in worlds]
        expected = answers(plan)
        self.outcomes.update("several" if rows == "several" else len(rows) > 0 for rows in expected)
        for name, path in list(all_places(KEYED, plan)):
            made = Rule(name).laid(KEYED, plan, path)
            self.assertEqual(plan.columns, made.columns)
            self.assertLessEqual(set(made.free), set(plan.free))
            self.assertEqual(expected, answers(made), (name, path))
            self.laid[name] += 1
        settled, road = home(KEYED, plan)
        self.assertEqual(settled, follow(KEYED, plan, road))
        self.assertEqual(expected, answers(settled))

    def drawn_known(self, drawer):
        numbers = drawer.random.sample([1, 2, 9999, 40], drawer.pick(0, 0, 1, 2))
        return {number: drawer.pick("whole", "text", "truth") for number in numbers}

    def test_shapes(self):
        for seed in range(1300):
            drawer = ShapeDrawer(seed, list(range(1, 30)) + [9999, 40])
            known = self.drawn_known(drawer)
            plan, _ = drawer.shaped(SHAPES[seed % len(SHAPES)], known)
            maker = random.Random(seed)
            self.check(plan, known, self.worlds(maker, known, [keyed_database(maker) for _ in range(4)]))
        self.assertEqual(set(Rule.all_names()), set(self.laid))
        self.assertGreater(len([many for many in self.laid.values() if many > 10]), 25, self.laid)
        self.assertGreater(self.outcomes["several"], 50)
        self.assertGreater(self.outcomes[True], 1000)

    def test_drawn_plans(self):
        for seed in range(900):
            drawer = PlanDrawer(seed)
            known = self.drawn_known(drawer)
            plan, _ = drawer.plan(2 + seed % 4, known)
            maker = random.Random(seed)
            self.check(plan, known, self.worlds(maker, known, [keyed_database(maker) for _ in range(3)]))
        self.assertGreater(self.outcomes["several"], 50)

    def test_all_small_databases(self):
        bases = [base for base in Store(SMALL, [None, 1, "a"], 3).walk()] + [
            base for base in Store(SMALL, [1, 2, "a"], 2).walk()]
        self.assertGreater(len(bases), 100)
        for seed in range(120):
            drawer = ShapeDrawer(seed, list(range(1, 30)))
            plan, _ = drawer.shaped(SHAPES[seed % len(SHAPES)], {})
            if not plan.free:
                self.check(plan, {}, [(base, None) for base in bases])


if __name__ == "__main__":
    unittest.main()
