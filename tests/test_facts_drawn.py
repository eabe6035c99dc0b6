"""Facts about many drawn plans: they are those of a second derivation, and they hold on databases that keep the schema."""

import random
import unittest
from itertools import combinations

from innerasks.databases import Database
from innerasks.errors import Broken
from innerasks.facts import facts, has_single_match
from innerasks.pairplans import Depend, Join
from innerasks.running import run
from asking import outcome
from drawn_plans import PlanDrawer, around
from drawn_questions import TABLES, drawn_value
from facts_oracle import derive, inner
from test_facts import KEYED


def drawn(seed, depth):
    drawer = PlanDrawer(seed)
    numbers = drawer.random.sample([1, 2, 3, 5, 9999, 9998, 40], drawer.random.randint(0, 2))
    known = {number: drawer.pick("whole", "text", "truth") for number in numbers}
    return known, drawer.plan(depth, known)[0]


def keyed_database(maker):
    while True:
        rows = {name: [tuple(drawn_value(maker, kind) for _, kind in columns) for _ in range(maker.randint(0, 4))]
                for name, columns in TABLES.items()}
        try:
            return Database(KEYED, rows)
        except Broken:
            continue


class Drawn(unittest.TestCase):
    def test_against_a_second_derivation(self):
        keys = 0
        for seed in range(2500):
            _, plan = drawn(seed, 2 + seed % 3)
            found, told = facts(KEYED, plan), derive(KEYED, plan)
            self.assertEqual(sorted(set(plan.columns) & told.never), list(found.never_null), seed)
            self.assertEqual(told.most, found.most, seed)
            self.assertEqual(told.quiet, found.is_quiet, seed)
            for many in range(3):
                for columns in list(combinations(plan.columns, many))[:30]:
                    reached = told.closure(columns)
                    self.assertEqual(sorted(set(plan.columns) & reached), list(found.follows(columns)), (seed, columns))
                    self.assertEqual(told.marks <= reached, found.is_key(columns), (seed, columns))
                    keys += found.is_key(columns)
        self.assertGreater(keys, 4000)

    def test_single_matches(self):
        singles = [0, 0]
        for seed in range(1500):
            _, plan = drawn(seed, 3)
            for _, node in plan.walk():
                if not isinstance(node, Join):
                    continue
                left, right = derive(KEYED, node.left), derive(KEYED, node.right)
                if isinstance(node, Depend):
                    foreign = frozenset(node.right.free) & frozenset(node.left.columns)
                    right.deps = [(needs, x | foreign, c) for needs, x, c in right.deps]
                is_single = right.marks <= inner(node, left, right).closure(left.marks)
                self.assertEqual(is_single, has_single_match(KEYED, node), seed)
                singles[is_single] += 1
        self.assertGreater(min(singles), 100)

    def test_they_hold(self):
        looked = 0
        for seed in range(5000, 5700):
            known, plan = drawn(seed, 3)
            found = facts(KEYED, plan)
            lists = [columns for many in range(3) for columns in combinations(plan.columns, many)][:20]
            told = [(columns, found.follows(columns), found.is_key(columns)) for columns in lists]
            maker = random.Random(seed)
            for _ in range(3):
                base = keyed_database(maker)
                row = tuple(drawn_value(maker, "text" if kind == "text" else "whole") for kind in known.values())
                rows = outcome(lambda: run(base, around(known, plan, [row])))
                if rows == "several":
                    self.assertFalse(found.is_quiet, seed)
                    continue
                looked += len(rows) > 0
                self.hold(plan, found, told, [row[2 * len(known):] for row in rows], seed)
        self.assertGreater(looked, 500)

    def hold(self, plan, found, told, rows, seed):
        place = {column: index for index, column in enumerate(plan.columns)}
        for column in found.never_null:
            self.assertNotIn(None, [row[place[column]] for row in rows], seed)
        if found.most is not None:
            self.assertLessEqual(len(rows), found.most, seed)
        for columns, follows, is_key in told:
            lots = {}
            for row in rows:
                lots.setdefault(tuple(row[place[column]] for column in columns), []).append(row)
            for lot in lots.values():
                self.assertFalse(is_key and len(lot) > 1, seed)
                self.assertEqual(1, len({tuple(row[place[column]] for column in follows) for row in lot}), seed)


if __name__ == "__main__":
    unittest.main()
