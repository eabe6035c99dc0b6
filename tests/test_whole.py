"""The promise [3]: one answer, or Several, of a question whichever way it goes."""

import random
import unittest

from innerasks.binding import bind
from innerasks.compiling import compiled
from innerasks.databases import Database
from innerasks.databasetexts import read_database, write_database
from innerasks.errors import BadParameter, NoQuestion
from innerasks.executors import Execution, best_ways
from innerasks.flattening import flat, is_flat
from innerasks.house import House
from innerasks.lotplans import has_order
from innerasks.plain import answer
from innerasks.plantexts import read_plan, write_plan
from innerasks.reader import read_question
from innerasks.roads import follow, home
from innerasks.rules import Rule, all_places
from innerasks.running import parameters_of, run
from innerasks.values import in_order
from innerasks.writer import write_question
from asking import outcome
from drawn_questions import Drawer, drawn_database, drawn_value
from samples import ASKED
from test_executors import ways_told
from test_facts import KEYED
from test_facts_drawn import keyed_database


class Whole(unittest.TestCase):
    def plans(self, schema, question, maker):
        """All plans to which a question leads: its own, the flat and the settled one, and some on the way."""
        plan = compiled(schema, question)
        told = [plan, flat(plan)]
        for one in told[:2]:
            settled, road = home(schema, one)
            told += [settled, follow(schema, one, road[:len(road) // 2])]
        for one in told[1:3]:
            steps = list(all_places(schema, one))
            for name, path in maker.sample(steps, min(3, len(steps))):
                told.append(Rule(name).laid(schema, one, path))
        told.append(flat(home(schema, plan)[0]))
        return told + [read_plan(write_plan(one)) for one in told[:3]]

    def check(self, schema, text, bases, maker, params=None):
        tree = read_question(text)
        self.assertEqual(tree, read_question(write_question(tree)))
        question, columns = bind(schema, tree)
        plans = self.plans(schema, question, maker)
        found = []
        for base in bases:
            expected = outcome(lambda: answer(base, question, params=params))
            found.append(expected)
            for at, plan in enumerate(plans):
                # Rules may take away where a parameter stands; the plan of a question and its flat plan have them all.
                told = params if at < 2 or params is None else {name: params[name] for name in parameters_of(plan)}
                self.assertEqual(len(columns), len(plan.columns))
                self.assertEqual(question[0] == "first", has_order(plan))
                self.assertEqual(expected, outcome(lambda: run(base, plan, params=told)), text)
                if is_flat(plan):
                    self.check_ways(base, plan, expected, maker, told)
            self.check_house(schema, base, text, expected, params)
        return found

    def check_ways(self, base, plan, expected, maker, params):
        told = ways_told(plan) if len(plan) < 30 else [{}]
        for ways in maker.sample(told, min(len(told), 3)):
            self.assertEqual(expected, outcome(lambda: Execution(base, plan, ways=ways, params=params).rows))
        best = outcome(lambda: best_ways(base, plan, params=params))
        self.assertEqual(expected == "several", best == "several")
        if best != "several":
            self.assertEqual(expected, Execution(base, plan, ways=best, params=params).rows)

    def check_house(self, schema, base, text, expected, params):
        house = House(schema, base.rows)
        self.assertEqual(expected, outcome(lambda: house.ask(text, params=params)))
        house.prepare("asked", text)
        self.assertEqual(expected, outcome(lambda: house.run("asked", params=params)))
        plan = house.plan_of("asked")
        self.assertTrue(is_flat(plan))
        self.assertEqual(expected, outcome(lambda: run(house.database, plan, params=params)))
        self.assertEqual(expected, outcome(lambda: house.trial(lambda one: one.run("asked", params=params))))
        if params:
            with self.assertRaises(BadParameter):
                house.define("mine", text)
            return
        house.define("mine", text)
        told = expected if expected == "several" else in_order(expected)
        self.assertEqual(told, outcome(lambda: house.ask("select * from mine")))
        house.prepare("viewed", "select * from mine as q")
        self.assertEqual(told, outcome(lambda: house.run("viewed")))
        self.assertEqual(told, outcome(lambda: run(base, house.plan_of("viewed"))))
        self.assertEqual(house, House.replayed(schema, read_database(write_database(base)).rows, house.steps))

    def drawn(self, seeds, schema, database, depth, params=None):
        found = []
        for seed in seeds:
            drawer = Drawer(seed, params)
            tree = drawer.question([], depth, drawer.kinds())
            maker = random.Random(seed)
            try:
                text = write_question(tree)
                bind(schema, read_question(text))
            except NoQuestion:
                continue
            except ValueError as error:
                self.assertEqual("BadKind", type(error).__name__)
                continue
            told = {name: drawn_value(maker, kind) for kind, name in (params or {}).items() if name in drawer.used}
            found += self.check(schema, text, [database(maker) for _ in range(2)], maker, told or None)
        return found

    def test_drawn_questions(self):
        found = self.drawn(range(7000, 7250), ASKED, drawn_database, 3)
        self.assertGreater(found.count("several"), 20)
        self.assertGreater(len([rows for rows in found if rows and rows != "several"]), 150)

    def test_questions_over_tables_with_keys(self):
        found = self.drawn(range(8000, 8200), KEYED, keyed_database, 3)
        self.assertGreater(len([rows for rows in found if rows and rows != "several"]), 100)

    def test_questions_with_parameters(self):
        found = self.drawn(range(9000, 9120), ASKED, drawn_database, 3, {"whole": "p", "text": "q"})
        self.assertGreater(len(found), 150)

    def test_empty_databases(self):
        for text in ["select x from t", "select count(*) as n from t", "select one (select count(*) as n from u where u.x = t.x) as k from t order by k",
                     "select * from (select x from t order by x desc) as q"]:
            self.check(ASKED, text, [Database(ASKED)], random.Random(1))


if __name__ == "__main__":
    unittest.main()
