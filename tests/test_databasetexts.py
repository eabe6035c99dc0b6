"""The texts of databases [72, 73]."""

import random
import unittest

from innerasks.databases import Database
from innerasks.databasetexts import read_database, write_database
from innerasks.errors import Broken, InvalidRows, InvalidSchema, InvalidText
from innerasks.schemas import Column, Schema, Table
from asking import BASE
from samples import ANYTHING
from test_facts_drawn import keyed_database
from test_parting import LINKED, PAIR

PEOPLE = Schema(
    Table("person", [Column("name", "text", required=True), Column("boss", "text"), Column("age", "whole")], unique=[("name",), ("boss", "age")],
          references=[(("boss",), "person", ("name",)), (("name", "age"), "other", ("x", "y"))]),
    Table("other", [Column("x", "text"), Column("y", "whole")], unique=[("x", "y"), ("y",)]),
    Table("lone", [Column("k", "whole", required=True)]),
)
ROWS = {"person": [("it's", None, None), ("bob", "it's", -3)], "other": [("bob", -3), (None, 10 ** 39)]}
TEXT = """table person
column name text required
column boss text
column age whole
key ('name')
key ('boss' 'age')
reference (('boss') 'person' ('name'))
reference (('name' 'age') 'other' ('x' 'y'))
row ('bob' 'it''s' -3)
row ('it''s' null null)
table other
column x text
column y whole
key ('x' 'y')
key ('y')
row (null 1000000000000000000000000000000000000000)
row ('bob' -3)
table lone
column k whole required"""
LINES = TEXT.split("\n")


def fault(text):
    try:
        read_database(text)
    except InvalidText as error:
        return error.line
    except (InvalidSchema, InvalidRows) as error:
        return type(error).__name__, error.word
    except Broken as error:
        return error.found
    return None


class Databases(unittest.TestCase):
    def test_write_and_read(self):
        base = Database(PEOPLE, ROWS)
        self.assertEqual(TEXT, write_database(base))
        self.assertEqual(base, read_database(TEXT))
        self.assertEqual(PEOPLE, read_database(TEXT).schema)

    def test_rows_in_any_order(self):
        told = LINES[:8] + LINES[8:10][::-1] + LINES[10:15] + LINES[15:17][::-1] + LINES[17:]
        self.assertNotEqual(LINES, told)
        self.assertEqual(Database(PEOPLE, ROWS), read_database("\n".join(told)))
        maker = random.Random(3)
        for _ in range(60):
            base = keyed_database(maker)
            text = write_database(base)
            self.assertEqual(base, read_database(text))
            lines = text.split("\n")
            begins = [at for at, line in enumerate(lines) if line.startswith("table")] + [len(lines)]
            mixed = []
            for begin, end in zip(begins, begins[1:]):
                rows = [line for line in lines[begin:end] if line.startswith("row")]
                maker.shuffle(rows)
                mixed += [line for line in lines[begin:end] if not line.startswith("row")] + rows
            self.assertEqual(base, read_database("\n".join(mixed)))
            self.assertEqual(text, write_database(read_database("\n".join(mixed))))

    def test_many_databases(self):
        for base in [BASE, Database(PAIR), Database(LINKED, {"a": [(1, 2), (2, 1)], "b": [(1,), (2,)], "c": [("x",), ("x",)]}),
                     Database(PAIR, {"a": [(number, "s" * 40) for number in range(40)]})]:
            self.assertEqual(base, read_database(write_database(base)))

    def test_values_that_are_no_texts(self):
        for thing in ANYTHING + [BASE, LINES, b"table t\ncolumn x whole"]:
            if not isinstance(thing, str):
                self.assertEqual(0, fault(thing))
        for text in ["", "\n", " ", "table", "table ", " table t", "table  t", "table t ", "table t u", "Table t", "column x whole", "key ('x')", "row (1)",
                     "reference (('x') 't' ('x'))", "x", "table\tt", "tablet", "()", "table t\r u"]:
            self.assertEqual(0, fault(text), text)

    def test_more_must_follow(self):
        self.assertEqual(1, fault("table t"))
        self.assertEqual(11, fault("\n".join(LINES[:11])))
        self.assertEqual(18, fault("\n".join(LINES[:18])))
        self.assertEqual(18, fault("\n".join(LINES[:18]) + "\n"))
        self.assertEqual(19, fault(TEXT + "\n"))
        self.assertEqual(19, fault(TEXT + "\n\n"))
        self.assertEqual(1, fault("table t\ntable u\ncolumn x whole"))
        self.assertEqual(1, fault("table t\n"))

    def test_lines_that_are_wrong(self):
        for index, line in enumerate(LINES):
            for other in (" " + line, line + " ", line.replace(" ", "  ", 1), line.split(" ")[0], "", line.capitalize(), line[1:], line + " x",
                          line.replace(" ", "\t"), line + "\r" if line.endswith(")") else " ", line + " 1 2"):
                told = LINES[:index] + [other] + LINES[index + 1:]
                self.assertEqual(index, fault("\n".join(told)), other)

    def test_lines_in_the_wrong_place(self):
        table, column, key, reference, row = "table u", "column x whole", "key ('x')", "reference (('x') 't' ('x'))", "row (1)"
        for ahead, line, right in [
            ([], column, False), ([], key, False), ([table], column, True), ([table], table, False), ([table], key, False), ([table], reference, False),
            ([table], row, False), ([table, column], column, True), ([table, column], key, True), ([table, column], reference, True), ([table, column], row, True),
            ([table, column], table, True), ([table, column, key], column, False), ([table, column, key], key, True), ([table, column, key], reference, True),
            ([table, column, key], row, True), ([table, column, key], table, True), ([table, column, reference], column, False),
            ([table, column, reference], key, False), ([table, column, reference], reference, True), ([table, column, reference], row, True),
            ([table, column, reference], table, True), ([table, column, row], column, False), ([table, column, row], key, False),
            ([table, column, row], reference, False), ([table, column, row], row, True), ([table, column, row], table, True),
        ]:
            found = fault("\n".join(ahead + [line, "nothing"]))
            self.assertEqual(len(ahead) + right, found, (ahead, line))

    def test_any_words_and_trees(self):
        # The form of names, kinds and trees is looked at by the classes only.
        self.assertEqual(("InvalidSchema", "name"), fault("table T9?\ncolumn x whole"))
        self.assertEqual(("InvalidSchema", "name"), fault("table select\ncolumn x whole"))
        self.assertEqual(("InvalidSchema", "name"), fault("table t\ncolumn X whole"))
        self.assertEqual(("InvalidSchema", "name"), fault("table t\ncolumn 'x' whole"))
        self.assertEqual(("InvalidSchema", "kind"), fault("table t\ncolumn x number"))
        self.assertEqual(("InvalidSchema", "kind"), fault("table t\ncolumn x required"))
        self.assertEqual(("InvalidSchema", "kind"), fault("table t\ncolumn x required required"))
        self.assertEqual(1, fault("table t\ncolumn x whole Required"))
        self.assertEqual(1, fault("table t\ncolumn x whole optional"))
        self.assertEqual(1, fault("table t\ncolumn required"))
        for tree in ["null", "1", "'x'", "()", "(1)", "('y')", "('x' 'x')", "(('x'))", "true"]:
            self.assertEqual(("InvalidSchema", "unique"), fault(f"table t\ncolumn x whole\nkey {tree}"), tree)
            self.assertEqual(("InvalidSchema", "references"), fault(f"table t\ncolumn x whole\nreference {tree}"), tree)
        for tree in ["null", "1", "'x'", "()", "('x')", "(1 1)", "(true)", "((1))"]:
            self.assertEqual(("InvalidRows", "t"), fault(f"table t\ncolumn x whole\nrow {tree}"), tree)
        self.assertEqual(("InvalidRows", "t"), fault("table t\ncolumn x text\nrow ('%')"))
        for tree in ["", "x", "(", "('x'", "('x') ('x')", " ('x')", "('x') ", "('x'  'y')", "01", "-0", "1" * 1001]:
            for word in ("key", "reference", "row"):
                self.assertEqual(2, fault(f"table t\ncolumn x whole\n{word} {tree}"), tree)

    def test_databases_that_are_wrong(self):
        many = "\n".join(f"column {letter} whole" for letter in "abcdefg")
        self.assertEqual(("InvalidSchema", "columns"), fault(f"table t\n{many}"))
        self.assertEqual(("InvalidSchema", "columns"), fault("table t\ncolumn x whole\ncolumn x text"))
        self.assertEqual(("InvalidSchema", "tables"), fault("table t\ncolumn x whole\ntable t\ncolumn x whole"))
        self.assertEqual(("InvalidSchema", "tables"), fault("\n".join(f"table {letter}\ncolumn x whole" for letter in "abcdefg")))
        self.assertEqual(("InvalidSchema", "references"), fault("table t\ncolumn x whole\nreference (('x') 'u' ('x'))"))
        self.assertEqual(("InvalidRows", "t"), fault("table t\ncolumn x whole" + "\nrow (1)" * 41))
        self.assertIsNone(fault("table t\ncolumn x whole" + "\nrow (1)" * 40))
        self.assertEqual(("required", "t", 0, (None,)), fault("table t\ncolumn x whole required\nrow (null)"))
        self.assertEqual(("key", "t", 0, (1,)), fault("table t\ncolumn x whole\nkey ('x')\nrow (1)\nrow (1)"))
        self.assertEqual(("reference", "t", 0, (2,)), fault("table t\ncolumn x whole\nreference (('x') 'u' ('y'))\nrow (2)\ntable u\ncolumn y whole\nkey ('y')"))

    def test_the_order_of_errors(self):
        # All lines come first; columns ahead of their table, tables in the order of the text, Schema, Database.
        self.assertEqual(3, fault("table T\ncolumn X kind\nrow 1\nrow x"))
        self.assertEqual(3, fault("table T\ncolumn X kind\ntable u"))
        self.assertEqual(("InvalidSchema", "kind"), fault("table T\ncolumn x kind\nrow 1"))
        self.assertEqual(("InvalidSchema", "kind"), fault("table T\ncolumn x kind\ncolumn Y whole"))
        self.assertEqual(("InvalidSchema", "name"), fault("table T\ncolumn x whole\ntable u\ncolumn x kind"))
        self.assertEqual(("InvalidSchema", "unique"), fault("table t\ncolumn x whole\nkey 1\ntable U\ncolumn x kind"))
        self.assertEqual(("InvalidSchema", "kind"), fault("table t\ncolumn x whole\nrow 1\ntable t\ncolumn x kind"))
        self.assertEqual(("InvalidSchema", "tables"), fault("table t\ncolumn x whole\nrow 1\ntable t\ncolumn x whole"))
        self.assertEqual(("InvalidRows", "u"), fault("table t\ncolumn x whole required\nrow (null)\ntable u\ncolumn x whole\nrow 1"))


if __name__ == "__main__":
    unittest.main()
