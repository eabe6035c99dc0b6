"""The texts of trees [70] and of plans [71, 73]."""

import random
import unittest

from innerasks.compiling import compiled
from innerasks.errors import InvalidPlan, InvalidText
from innerasks.flattening import flat
from innerasks.lotplans import First, Group, Number
from innerasks.pairplans import Depend, Except, Intersect, Join, Union
from innerasks.plans import Compute, Distinct, Filter, Keep, Rows, Scan
from innerasks.plantexts import read_plan, write_plan
from innerasks.treetexts import write_tree
from asking import bound
from drawn_plans import PlanDrawer
from samples import ANYTHING, ASKED
from test_compiling import INNER
from test_facts import column, equal, value
from test_rules import A, ALWAYS, T, U, V, all_of

TREES = [
    (None, "null"), (True, "true"), (False, "false"), (0, "0"), (7, "7"), (-12, "-12"), (10 ** 59, "1" + "0" * 59), ("", "''"), ("a", "'a'"),
    ("it's", "'it''s'"), ("'", "''''"), ("''", "''''''"), (" ~(%)", "' ~(%)'"), ("null", "'null'"), ((), "()"), ((1,), "(1)"), ((1, 2), "(1 2)"),
    (((),), "(())"), ((("a",), (), None, -1), "(('a') () null -1)"), ((True, 1, False, 0), "(true 1 false 0)"),
    (("=", ("column", 1), ("value", "it's")), "('=' ('column' 1) ('value' 'it''s'))"), (10 ** 999, "1" + "0" * 999), (-(10 ** 1000 - 1), "-" + "9" * 1000),
]
# What is no text of a tree.
NO_TREES = [
    "", " ", "x", "nul", "Null", "NULL", "None", "True", "truefalse", "nulls", "-", "--1", "+1", "01", "00", "-0", "-01", "1.0", "1_0", "1e3", "0x1", "'", "'a",
    "a'", "'a'b", "'a''", "'''", "'\t'", "'é'", '"a"', "(", ")", "(1", "1)", "(1))", "((1)", "( 1)", "(1 )", "( )", "(1  2)", "(1,2)", "(1(2))", "(1'a')", "(1(2)", "('a'(1)", "(1''2)",
    "('a''b'1)", "('a'null)", "(null'a')", "(true1)", "[1]", "{}", "1\t", "\t1", "(1\t2)", "1" * 1001, "-" + "1" * 1001, "\u0663", "'a\u00a0'",
]
NODES = [
    (Rows((1, 2), [(1, "a"), (None, "it's")]), "Rows (1 2) ((1 'a') (null 'it''s'))"), (Rows((), [(), ()]), "Rows () (() ())"), (Rows([], []), "Rows () ()"),
    (T, "Scan 't' (1 2 3)"), (Scan("t", []), "Scan 't' ()"),
    (Filter(T, A), "Filter ('<' ('column' 1) ('value' 3))\n  Scan 't' (1 2 3)"), (Filter(T, ALWAYS), "Filter ('and' ())\n  Scan 't' (1 2 3)"),
    (Compute(T, [(9, ("+", column(1), ("param", "p"))), (8, ("truth", 50))]),
     "Compute ((9 ('+' ('column' 1) ('param' 'p'))) (8 ('truth' 50)))\n  Scan 't' (1 2 3)"),
    (Compute(T, []), "Compute ()\n  Scan 't' (1 2 3)"), (Keep(T, [2, 1]), "Keep (2 1)\n  Scan 't' (1 2 3)"), (Distinct(T), "Distinct\n  Scan 't' (1 2 3)"),
    (Number(T, 9), "Number 9 ()\n  Scan 't' (1 2 3)"), (Number(T, 9, [1]), "Number 9 (1)\n  Scan 't' (1 2 3)"),
    (Group(T, (1,), [(9, ("count", None, False)), (8, ("count", column(2), True)), (7, ("sum", column(2)))]),
     "Group (1) ((9 ('count' null false)) (8 ('count' ('column' 2) true)) (7 ('sum' ('column' 2))))\n  Scan 't' (1 2 3)"),
    (First(T, [(1, True), (2, False)], None), "First ((1 true) (2 false)) null ()\n  Scan 't' (1 2 3)"),
    (First(T, (), 3, (1,)), "First () 3 (1)\n  Scan 't' (1 2 3)"),
    (Union(U, Scan("u", (6, 7)), [8, 9]), "Union (8 9)\n  Scan 'u' (4 5)\n  Scan 'u' (6 7)"),
    (Except(V, Scan("v", (7,)), (8,)), "Except (8)\n  Scan 'v' (6)\n  Scan 'v' (7)"), (Intersect(V, Scan("v", (7,)), (8,)), "Intersect (8)\n  Scan 'v' (6)\n  Scan 'v' (7)"),
    (Join("semi", T, U, equal(1, 4)), "Join 'semi' ('=' ('column' 1) ('column' 4)) null\n  Scan 't' (1 2 3)\n  Scan 'u' (4 5)"),
    (Join("mark", T, U, ALWAYS, 9), "Join 'mark' ('and' ()) 9\n  Scan 't' (1 2 3)\n  Scan 'u' (4 5)"),
    (Depend("single", T, Filter(U, equal(4, 1)), ALWAYS),
     "Depend 'single' ('and' ()) null\n  Scan 't' (1 2 3)\n  Filter ('=' ('column' 4) ('column' 1))\n    Scan 'u' (4 5)"),
    (Keep(Join("left", Scan("t", (1,)), Compute(Scan("u", (2,)), [(3, ("value", 0))]), equal(1, 2)), (3,)),
     "Keep (3)\n  Join 'left' ('=' ('column' 1) ('column' 2)) null\n    Scan 't' (1)\n    Compute ((3 ('value' 0)))\n      Scan 'u' (2)"),
]


def line_of(text):
    try:
        read_plan(text)
    except InvalidText as error:
        return error.line
    except InvalidPlan as error:
        return error.word
    return None


class Trees(unittest.TestCase):
    def test_write(self):
        for tree, text in TREES:
            self.assertEqual(text, write_tree(tree))

    def test_read(self):
        # A tree is read as a field of a Filter, whose form is looked at later.
        for tree, text in TREES:
            told = None if tree and isinstance(tree, tuple) and tree[0] == "=" else "expression"
            self.assertEqual(told, line_of(f"Filter {text}\n  Scan 't' (1)"), text)
            field = ("value", tree)
            told = read_plan(f"Rows (1) (({text}))") if tree is None or isinstance(tree, str) and "%" not in tree or type(tree) is int else None
            if told is not None:
                self.assertEqual(Rows((1,), [(tree,)]), told)
                self.assertIs(type(tree), type(told.rows[0][0]))
                self.assertEqual(Filter(T, ("is", field, column(1))), read_plan(f"Filter ('is' {write_tree(field)} ('column' 1))\n  Scan 't' (1 2 3)"))

    def test_no_trees(self):
        for text in NO_TREES:
            self.assertEqual(0, line_of(f"Filter {text}\n  Scan 't' (1)"), text)
            self.assertEqual(1, line_of(f"Distinct\n  Filter {text}\n    Scan 't' (1)"), text)
            self.assertEqual(0, line_of(f"Rows (1) {text}"), text)
            self.assertEqual(0, line_of(f"Rows {text} (1)"), text)
            self.assertEqual(0, line_of(f"Rows (1) ({text} 2)"), text)

    def test_deep_trees(self):
        tree = ("value", 1)
        for _ in range(150):
            tree = ("not", tree)
        self.assertEqual("expression", line_of(f"Filter {write_tree(tree)}\n  Scan 't' (1)"))
        self.assertEqual(0, line_of("Filter " + "(" * 5000 + "\n  Scan 't' (1)"))
        self.assertEqual(0, line_of("Filter " + "(" * 5000 + ")" * 4999 + "\n  Scan 't' (1)"))


class Plans(unittest.TestCase):
    def test_each_class(self):
        for plan, text in NODES:
            self.assertEqual(text, write_plan(plan))
            self.assertEqual(plan, read_plan(text))
            self.assertEqual(type(plan), type(read_plan(text)))

    def test_below_others(self):
        for plan, text in NODES:
            lines = text.split("\n")
            deeper = "\n".join("      " + line for line in lines)
            above = Join("semi", Scan("w", (9000,)), Distinct(Keep(plan, ())), ALWAYS)
            self.assertEqual("Join 'semi' ('and' ()) null\n  Scan 'w' (9000)\n  Distinct\n    Keep ()\n" + deeper, write_plan(above))
            self.assertEqual(above, read_plan(write_plan(above)))

    def test_drawn_plans(self):
        for seed in range(800):
            plan = PlanDrawer(seed).plan(2 + seed % 4, {1: "whole", 2: "text", 3: "truth"})[0]
            text = write_plan(plan)
            self.assertEqual(plan, read_plan(text))
            self.assertEqual(text, write_plan(read_plan(text)))
            self.assertEqual(len(plan), len(text.split("\n")))
        for text in INNER:
            plan = flat(compiled(ASKED, bound("select x, y from t where " + text)))
            self.assertEqual(plan, read_plan(write_plan(plan)))

    def test_values_that_are_no_texts(self):
        for thing in ANYTHING + [T, [], ["Distinct"], b"Scan 't' (1)"]:
            if not isinstance(thing, str):
                self.assertEqual(0, line_of(thing))
        for text in ["", "\n", " ", "\n\n", "x", "Plan", "plan", "scan 't' (1)", "SCAN 't' (1)", "Scan", "Scan 't'", "Scan 't' (1) ()", " Scan 't' (1)",
                     "  Scan 't' (1)", "Scan  't' (1)", "Scan 't'  (1)", "Scan 't' (1) ", "Scan't' (1)", "Scan 't'(1)", "Scan 't' (1)\r", "\tScan 't' (1)",
                     "Scan t (1)", "Scan 't', (1)", "Plan (1)", "Table 't'", "Several", "Distinct ", "Distinct ()", "Filter", "Keep",
                     "Keep (1) ()", "First () null", "First () null () ()", "Join 'semi' ('and' ())", "Join 'semi' ('and' ()) null null", "Number 9", "Rows ()x()", "Rows ()(()", "Rows ()''()",
                     "Number 9x()"]:
            self.assertEqual(0, line_of(text), text)

    def test_depths(self):
        good = ["Join 'semi' ('and' ()) null", "  Keep (1)", "    Scan 't' (1)", "  Scan 'u' (2)"]
        self.assertIsNone(line_of("\n".join(good)))
        for index, line in enumerate(good):
            for other in ("xx" + line[2:] if line.startswith("  ") else " " + line, "\t" + line[2:], "  " + line, " " + line, line[1:], line[2:], "   " + line, "", line + " ", line.replace(" (", "  (")):
                if other != line:
                    told = good[:index] + [other] + good[index + 1:]
                    self.assertEqual(index, line_of("\n".join(told)), told)
            # Left out, doubled, exchanged.
            self.assertEqual([0, 1, 2, 3][index], line_of("\n".join(good[:index] + good[index + 1:])))
            self.assertEqual(index + 1, line_of("\n".join(good[:index + 1] + good[index:])))
            if index:
                told = good[:]
                told[index - 1], told[index] = told[index], told[index - 1]
                self.assertEqual(index - 1, line_of("\n".join(told)))

    def test_ends(self):
        good = ["Join 'semi' ('and' ()) null", "  Keep (1)", "    Scan 't' (1)", "  Scan 'u' (2)"]
        for many in range(1, 4):
            self.assertEqual(many, line_of("\n".join(good[:many])))
            self.assertEqual(many, line_of("\n".join(good[:many]) + "\n"))
        self.assertEqual(4, line_of("\n".join(good) + "\n"))
        self.assertEqual(4, line_of("\n".join(good) + "\n\n"))
        self.assertEqual(4, line_of("\n".join(good + ["Scan 'v' (3)"])))
        self.assertEqual(4, line_of("\n".join(good + ["  Scan 'v' (3)"])))
        self.assertEqual(1, line_of("Scan 't' (1)\n"))
        self.assertEqual(1, line_of("Scan 't' (1)\nScan 't' (1)"))

    def test_plans_that_are_wrong(self):
        for text, word in [
            ("Scan 5 (1)", "field"), ("Scan 'from' (1)", "field"), ("Scan 't' 1", "columns"), ("Scan 't' (1 1)", "columns"), ("Scan 't' (0)", "columns"),
            ("Scan 't' (true)", "columns"), ("Rows (1) ((1 2))", "field"), ("Rows (1) (('%'))", "field"), ("Rows (1) ((true))", "field"), ("Rows (1) (1)", "field"),
            ("Rows null null", "field"), ("Keep (9)\n  Scan 't' (1)", "missing"), ("Keep null\n  Scan 't' (1)", "columns"),
            ("Filter ('x')\n  Scan 't' (1)", "expression"), ("Filter ('column' 1)\n  Scan 't' (1)", "expression"), ("Compute (1)\n  Scan 't' (1)", "field"),
            ("Compute ((1 ('value' 0)))\n  Scan 't' (1)", "columns"), ("Number 'a' ()\n  Scan 't' (1)", "field"), ("Number 1 ()\n  Scan 't' (1)", "columns"),
            ("First ((1 0)) null ()\n  Scan 't' (1)", "field"), ("First () true ()\n  Scan 't' (1)", "field"), ("First () -1 ()\n  Scan 't' (1)", "field"),
            ("Group (1) ((2 ('count')))\n  Scan 't' (1)", "expression"), ("Join 'sem' ('and' ()) null\n  Scan 't' (1)\n  Scan 'u' (2)", "field"),
            ("Join 'semi' ('and' ()) 3\n  Scan 't' (1)\n  Scan 'u' (2)", "field"), ("Depend 'full' ('and' ()) null\n  Scan 't' (1)\n  Scan 'u' (2)", "field"),
            ("Join 'semi' ('and' ()) null\n  Scan 't' (1)\n  Scan 'u' (1)", "columns"), ("Union (3)\n  Scan 't' (1)\n  Scan 'u' (1 2)", "missing"),
            ("Join 'inner' ('and' ()) null\n  Scan 't' (1)\n  Filter ('=' ('column' 1) ('column' 2))\n    Scan 'u' (2)", "free"),
        ]:
            self.assertEqual(word, line_of(text), text)

    def test_the_order_of_errors(self):
        # Lines come ahead of classes, parts ahead of their node, left ahead of right.
        self.assertEqual(2, line_of("Keep (9)\n  Filter ('x')\n    Scan"))
        self.assertEqual(3, line_of("Join 'x' 1 1\n  Scan 5 (1)\n  Scan 't' (0)\n"))
        self.assertEqual("expression", line_of("Keep (9)\n  Filter ('x')\n    Scan 't' (1)"))
        self.assertEqual("columns", line_of("Keep (9)\n  Filter ('x')\n    Scan 't' (0)"))
        self.assertEqual("field", line_of("Join 'semi' ('and' ()) null\n  Scan 5 (1)\n  Scan 't' (0)"))
        self.assertEqual("columns", line_of("Join 'semi' 1 null\n  Scan 't' (0)\n  Scan 5 (1)"))
        self.assertEqual("missing", line_of("Join 'semi' 1 null\n  Keep (2)\n    Scan 't' (1)\n  Scan 5 (1)"))
        self.assertEqual("expression", line_of("Join 'semi' 1 null\n  Scan 't' (1)\n  Scan 'u' (2)"))

    def test_lines_at_random(self):
        for seed in range(300):
            maker = random.Random(seed)
            lines = write_plan(PlanDrawer(seed).plan(3, {})[0]).split("\n")
            if len(lines) < 3:
                continue
            at = maker.randrange(len(lines))
            told = lines[:at] + [lines[at] + maker.choice([" ", " 1", " ()", "x", "\t"])] + lines[at + 1:]
            self.assertEqual(at, line_of("\n".join(told)))
            self.assertEqual(len(lines), line_of("\n".join(lines + [maker.choice(lines)])))
            self.assertEqual(len(lines) - 1, line_of("\n".join(lines[:-1])))


if __name__ == "__main__":
    unittest.main()
