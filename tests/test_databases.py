"""Databases, what it is to keep a schema, the first break [16]."""

import itertools
import unittest

from innerasks.databases import Database
from innerasks.errors import Broken, InvalidRows, UnknownTable
from innerasks.schemas import Column, Schema, Table
from samples import ANYTHING, NO_TEXTS

PERCENT = chr(37)
FREE = Schema(Table("t", [Column("x", "whole"), Column("y", "text")]), Table("u", [Column("z", "whole")]))
PERSON = Table(
    "person",
    [Column("name", "text", required=True), Column("boss", "text"), Column("nr", "whole", required=True)],
    unique=[("name",), ("nr", "boss")], references=[(("boss",), "person", ("name",))],
)
WORK = Table(
    "work", [Column("who", "text"), Column("nr", "whole"), Column("boss", "text", required=True)],
    unique=[("who", "nr")], references=[(("who",), "person", ("name",)), (("nr", "boss"), "person", ("nr", "boss"))],
)
STRICT = Schema(WORK, PERSON)


class Properties(unittest.TestCase):
    def test_rows_in_any_order(self):
        bag = [(None, "b"), (1, None), (1, "a"), (1, "a"), (2, "")]
        for rows in itertools.permutations(bag):
            for told in (list(rows), tuple(rows)):
                self.assertEqual(bag, Database(FREE, {"t": told})["t"])

    def test_tables_left_out(self):
        for rows in (None, {}, {"t": []}, {"u": ()}, {"u": [], "t": []}):
            base = Database(FREE, rows)
            self.assertEqual({"t": [], "u": []}, base.rows)
            self.assertEqual(0, base.size)
        self.assertEqual({"t": [], "u": []}, Database(FREE).rows)
        self.assertEqual({"t": [], "u": [(1,)]}, Database(FREE, {"u": [(1,)]}).rows)

    def test_rows(self):
        base = Database(FREE, {"u": [(2,), (1,)], "t": ((3, "a"),)})
        self.assertEqual({"t": [(3, "a")], "u": [(1,), (2,)]}, base.rows)
        self.assertEqual(["t", "u"], list(base.rows))
        self.assertEqual(3, base.size)
        self.assertIs(FREE, base.schema)

    def test_one_table(self):
        base = Database(FREE, {"u": [(2,), (1,)]})
        self.assertEqual(([], [(1,), (2,)]), (base["t"], base["u"]))
        self.assertIsInstance(base["t"], list)
        for thing in ANYTHING + ["x", "tu", 0, slice(0, 1)]:
            if thing != "t":
                with self.assertRaises(UnknownTable) as caught:
                    base[thing]
                self.assertEqual(thing, caught.exception.word)

    def test_what_is_returned_is_new(self):
        base = Database(FREE, {"u": [(2,), (1,)]})
        base.rows["u"].append((7,))
        base.rows.clear()
        base["u"].clear()
        self.assertEqual({"t": [], "u": [(1,), (2,)]}, base.rows)
        self.assertIsNot(base.rows, base.rows)
        self.assertIsNot(base.rows["u"], base.rows["u"])
        self.assertIsNot(base["u"], base["u"])

    def test_what_is_passed_may_be_changed(self):
        listed = [(2,), (1,)]
        rows = {"u": listed}
        base = Database(FREE, rows)
        self.assertEqual({"u": [(2,), (1,)]}, rows)
        listed.append((3,))
        rows["t"] = [(1, "a")]
        self.assertEqual({"t": [], "u": [(1,), (2,)]}, base.rows)

    def test_it_is_not_iterated_over(self):
        self.assertRaises(TypeError, iter, Database(FREE))

    def test_equality(self):
        one = Database(FREE, {"u": [(2,), (1,)]})
        self.assertIs(True, one == Database(FREE, {"u": ((1,), (2,)), "t": []}))
        again = Schema(*FREE.tables)
        self.assertIs(True, one == Database(again, {"u": [(1,), (2,)]}))
        for other in ({"u": [(1,)]}, {"u": [(1,), (2,), (2,)]}, {"u": [(1,), (2,)], "t": [(1, "a")]}, {}):
            self.assertIs(False, one == Database(FREE, other))
        other = Schema(FREE.tables[1], FREE.tables[0])
        self.assertIs(False, one == Database(other, {"u": [(2,), (1,)]}))
        for thing in ANYTHING + [one.rows, FREE]:
            self.assertIs(False, one == thing)


class Replaced(unittest.TestCase):
    def test_some_tables(self):
        one = Database(FREE, {"u": [(2,), (1,)], "t": [(1, "a")]})
        other = one.replaced(u=[(4,), (3,)])
        self.assertEqual({"t": [(1, "a")], "u": [(3,), (4,)]}, other.rows)
        self.assertEqual({"t": [(1, "a")], "u": [(1,), (2,)]}, one.rows)
        self.assertEqual({"t": [], "u": []}, one.replaced(u=(), t=[]).rows)
        self.assertEqual(one, one.replaced())
        self.assertIs(FREE, other.schema)

    def test_tables_with_names_of_arguments(self):
        schema = Schema(Table("rows", [Column("x", "whole")]), Table("schema", [Column("x", "whole")]))
        base = Database(schema).replaced(rows=[(1,)], schema=[(2,)])
        self.assertEqual({"rows": [(1,)], "schema": [(2,)]}, base.rows)

    def test_errors(self):
        base = Database(STRICT)
        with self.assertRaises(UnknownTable) as caught:
            base.replaced(t=[], person=5, b=[])
        self.assertEqual("b", caught.exception.word)
        with self.assertRaises(InvalidRows) as caught:
            base.replaced(person=[(1,)], work=[()])
        self.assertEqual("work", caught.exception.word)
        with self.assertRaises(Broken) as caught:
            base.replaced(person=[("a", None, None)])
        self.assertEqual(("required", "person", 2, ("a", None, None)), caught.exception.found)

    def test_rows_that_stay_may_break(self):
        base = Database(STRICT, {"person": [("a", None, 1)], "work": [("a", None, "x")]})
        with self.assertRaises(Broken) as caught:
            base.replaced(person=[])
        self.assertEqual(("reference", "work", 0, ("a", None, "x")), caught.exception.found)


class WrongRows(unittest.TestCase):
    def check(self, word, rows, schema=FREE):
        for call in (Database, Database.first_break):
            with self.assertRaises(InvalidRows) as caught:
                call(schema, rows)
            self.assertEqual(word, caught.exception.word, rows)
        with self.assertRaises(InvalidRows) as caught:
            Database(schema).replaced(**rows)
        self.assertEqual(word, caught.exception.word, rows)

    def test_unknown_tables(self):
        for rows, word in (({"v": []}, "v"), ({"t": [], "w": [], "v": 5, "z": []}, "v"), ({"T": []}, "T"),
                           ({"t": 5, "x": []}, "x"), ({"": []}, "")):
            for call in (Database, Database.first_break):
                with self.assertRaises(UnknownTable) as caught:
                    call(FREE, rows)
                self.assertEqual(word, caught.exception.word)

    def test_no_lists(self):
        for thing in ANYTHING:
            if thing != [] and thing != ():
                self.check("t", {"t": thing})
                self.check("u", {"u": thing})

    def test_no_rows(self):
        for row in NO_TEXTS + [[1, "a"], (1,), (1, "a", 1), (1, "a", None), "xy", {1: 1}, {}, [None, None]]:
            self.check("t", {"t": [row]})
            self.check("t", {"t": ((1, "a"), row)})

    def test_no_values(self):
        for value in (True, False, [], (), {}, "a" * 41, PERCENT, "\n", "é", ((1,),)):
            self.check("t", {"t": [(1, value)]})
            self.check("t", {"t": [(value, "a")]})
            self.check("u", {"u": [(value,)]})

    def test_other_kinds(self):
        self.check("t", {"t": [("a", "a")]})
        self.check("t", {"t": [(1, 1)]})
        self.check("u", {"u": [("1",)]})
        self.assertEqual(3, Database(FREE, {"t": [(None, None), (1, None), (None, "a" * 40)]}).size)

    def test_number_of_rows(self):
        for many in (0, 1, 39, 40):
            self.assertEqual(many, Database(FREE, {"u": [(1,)] * many}).size)
            self.assertIsNone(Database.first_break(FREE, {"u": ((1,),) * many}))
        self.check("u", {"u": [(1,)] * 41})
        self.check("u", {"u": ((1,),) * 41})
        self.assertEqual(80, Database(FREE, {"u": [(1,)] * 40, "t": [(1, "a")] * 40}).size)

    def test_the_first_table_by_the_schema(self):
        self.check("t", {"u": 1, "t": 1})
        self.check("u", {"u": 1, "t": [(1, "a")]})

    def test_they_come_ahead_of_breaks(self):
        self.check("person", {"work": [(None, None, None)], "person": 1}, STRICT)


class Breaks(unittest.TestCase):
    def check(self, expected, person=(), work=(), schema=STRICT):
        for turned in (False, True):
            rows = {"person": list(person)[::-1], "work": list(work)} if turned else {"work": work, "person": person}
            self.assertEqual(expected, Database.first_break(schema, rows))
            if expected is None:
                self.assertEqual(len(person) + len(work), Database(schema, rows).size)
                self.assertEqual(len(person) + len(work), Database(schema).replaced(**rows).size)
            else:
                for call in (lambda: Database(schema, rows), lambda: Database(schema).replaced(**rows)):
                    with self.assertRaises(Broken) as caught:
                        call()
                    self.assertEqual(expected, caught.exception.found)
                    self.assertIsInstance(caught.exception.found, tuple)

    def test_none(self):
        self.check(None)
        self.assertIsNone(Database.first_break(STRICT, {}))
        self.assertIsNone(Database.first_break(STRICT, None))
        self.check(None, [("a", None, 1), ("b", "a", 1)], [("a", None, "q"), ("b", 1, "a")])

    def test_required(self):
        self.check(("required", "person", 0, (None, None, 1)), [("a", None, 1), (None, None, 1)])
        self.check(("required", "person", 2, ("a", None, None)), [("b", None, None), ("a", None, None)])
        self.check(("required", "work", 2, (None, None, None)), (), [(None, None, None)])

    def test_the_first_required_column(self):
        self.check(("required", "person", 0, (None, None, 1)), [("a", None, None), (None, None, 1)])
        self.check(("required", "person", 0, (None, None, None)), [(None, None, None)])

    def test_keys(self):
        self.check(("key", "person", 0, ("a", None, 1)), [("a", None, 2), ("a", None, 1), ("b", None, 1)])
        self.check(("key", "person", 0, ("a", None, 1)), [("a", None, 1), ("a", None, 1)])
        self.check(("key", "person", 1, ("b", "a", 1)), [("a", None, 1), ("c", "a", 1), ("b", "a", 1)])
        self.check(("key", "work", 0, ("a", 1, "q")), [("a", "a", 1)], [("a", 1, "r"), ("a", 1, "q"), ("a", 2, "q")])

    def test_nulls_in_keys(self):
        self.check(None, [("a", None, 1), ("b", None, 1), ("c", None, 1)])
        self.check(None, [("a", None, 1)], [("a", None, "q"), ("a", None, "q"), (None, None, "q"), (None, None, "q")])

    def test_the_first_key(self):
        rows = [("b", "b", 1), ("b", "b", 2), ("a", "b", 1)]
        self.check(("key", "person", 0, ("b", "b", 1)), rows)
        self.check(("key", "person", 1, ("a", "b", 1)), [("a", "b", 1), ("b", "b", 1)])

    def test_references(self):
        self.check(("reference", "person", 0, ("a", "c", 1)), [("b", "d", 1), ("a", "c", 1)])
        self.check(("reference", "work", 0, ("b", None, "q")), [("a", None, 1)], [("c", None, "q"), ("b", None, "q")])
        self.check(("reference", "work", 1, ("a", 1, "q")), [("a", None, 1)], [("a", 1, "q")])
        self.check(("reference", "work", 1, (None, 2, "a")), [("a", "a", 1)], [(None, 2, "a"), (None, 1, "a")])

    def test_nulls_in_references(self):
        self.check(None, [("a", None, 1)], [(None, None, "q"), ("a", None, "r")])
        # The row there has a null in the key: it is no row with these values.
        self.check(("reference", "work", 1, (None, 1, "a")), [("a", None, 1)], [(None, 1, "a")])

    def test_references_to_the_table_itself(self):
        self.check(None, [("a", "a", 1)])
        self.check(None, [("a", "b", 1), ("b", "a", 1)])
        self.check(("reference", "person", 0, ("a", "b", 1)), [("a", "b", 1)])

    def test_the_first_of_several(self):
        gap, clash, loose = (None, None, 1), [("b", None, 1), ("b", None, 2)], ("a", "z", 1)
        self.check(("required", "person", 0, gap), [gap, loose] + clash)
        self.check(("key", "person", 0, clash[0]), [loose] + clash)
        self.check(("reference", "person", 0, loose), [loose, ("b", None, 1)])

    def test_tables_by_the_schema(self):
        work = [("q", None, "x")]
        self.check(("reference", "work", 0, work[0]), [(None, None, None)], work)
        turned = Schema(PERSON, WORK)
        self.check(("required", "person", 0, (None, None, None)), [(None, None, None)], work, turned)
        self.check(("reference", "work", 0, work[0]), (), work, turned)

    def test_the_first_reference(self):
        self.check(("reference", "work", 0, ("b", None, "q")), [("a", None, 1)], [("b", None, "q"), ("a", 1, "q")])

    def test_both_kinds_of_least_rows(self):
        numbers = Schema(Table("t", [Column("x", "whole"), Column("y", "text")], unique=[("x",)]))
        for rows in itertools.permutations([(10, "b"), (10, "a"), (9, "z"), (9, None), (None, None), (None, None)]):
            self.assertEqual(("key", "t", 0, (9, None)), Database.first_break(numbers, {"t": rows}))


if __name__ == "__main__":
    unittest.main()
