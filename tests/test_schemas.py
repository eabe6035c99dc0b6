"""Columns, tables and schemas [15]."""

import unittest

from innerasks.errors import InvalidSchema, UnknownColumn, UnknownTable
from innerasks.schemas import Column, Schema, Table
from samples import ANYTHING, NO_TEXTS

X = Column("x", "whole")
Y = Column("y", "whole", required=True)
Z = Column("z", "text")
NO_NAMES = NO_TEXTS + ["", "self", "select", "X", "x1", "abcdefghijklm", "x y", "\n"]


def table(name="t", columns=(X, Y, Z), **more):
    return Table(name, columns, **more)


class Raising(unittest.TestCase):
    def check(self, word, call, *args, **more):
        with self.assertRaises(InvalidSchema) as caught:
            call(*args, **more)
        self.assertEqual(word, caught.exception.word, (args, more))


class Columns(Raising):
    def test_properties(self):
        column = Column("abcdefghijkl", "text", required=True)
        self.assertEqual(("abcdefghijkl", "text", True), (column.name, column.kind, column.required))
        self.assertEqual(("x", "whole", False), (X.name, X.kind, X.required))

    def test_names(self):
        for thing in NO_NAMES:
            self.check("name", Column, thing, "whole")

    def test_kinds(self):
        for thing in ANYTHING:
            if thing not in ("whole", "text"):
                self.check("kind", Column, "x", thing)
        for thing in ("truth", "open", "Whole", "whole ", ("whole",), ["text"], {"whole": 1}):
            self.check("kind", Column, "x", thing)

    def test_the_first_wrong_argument(self):
        self.check("name", Column, "", "")
        self.check("name", Column, ["x"], ["whole"])

    def test_equality(self):
        self.assertEqual(X, Column("x", "whole"))
        self.assertEqual(X, Column("x", "whole", required=False))
        for other in (Column("y", "whole"), Column("x", "text"), Column("x", "whole", required=True)):
            self.assertNotEqual(X, other)
        for thing in NO_TEXTS:
            self.assertIs(isinstance(thing, Column), X == thing)
        self.assertFalse(X == "x")
        self.assertFalse(X == ("x", "whole", False))


class Tables(Raising):
    def test_properties(self):
        one = Table("t", [X, Y], unique=[("x",), ("y", "x")], references=[(("x",), "u", ("y",))])
        self.assertEqual("t", one.name)
        self.assertEqual((X, Y), one.columns)
        self.assertEqual((("x",), ("y", "x")), one.unique)
        self.assertEqual(((("x",), "u", ("y",)),), one.references)
        for told in (one.columns, one.unique, one.references):
            self.assertIsInstance(told, tuple)
        self.assertEqual(((), ()), (table().unique, table().references))
        self.assertIsInstance(Table("t", (X,), unique=[]).unique, tuple)

    def test_names(self):
        for thing in NO_NAMES:
            self.check("name", Table, thing, [X])

    def test_columns_of_any_value(self):
        for thing in ANYTHING:
            if thing != [X] and thing != (X,):
                self.check("columns", Table, "t", thing)
        for thing in ([X, "y"], [X, None], (X, [Y]), [table()], {"x": X}, "xy", [[X]], X, [("y", "whole")]):
            self.check("columns", Table, "t", thing)

    def test_number_of_columns(self):
        columns = [Column(name, "whole") for name in "abcdefg"]
        for many in range(1, 7):
            self.assertEqual(many, len(Table("t", columns[:many])))
            self.assertEqual(many, len(Table("t", tuple(columns[:many]))))
        self.check("columns", Table, "t", columns)
        self.check("columns", Table, "t", [])
        self.check("columns", Table, "t", ())

    def test_columns_with_the_same_name(self):
        self.check("columns", Table, "t", [X, X])
        self.check("columns", Table, "t", [X, Y, Column("x", "text")])

    def test_keys_of_any_value(self):
        for thing in ANYTHING:
            if thing not in ([], (), (("x",),)):
                self.check("unique", table, unique=thing)

    def test_keys(self):
        for key in (("x",), ("y",), ("z", "x"), ("x", "y", "z"), ("z", "y", "x")):
            self.assertEqual((key,), table(unique=[key]).unique)
            self.assertEqual((key,), table(unique=(key,)).unique)
        for key in ((), ["x"], "x", ("x", "x"), ("a",), ("x", "a"), (None,), (("x",),), (["x"],), ({},), 1, None,
                    {"x": 1}, ("",), (X,), (0,), (True,)):
            self.check("unique", table, unique=[key])
            self.check("unique", table, unique=(("y",), key))

    def test_number_of_keys(self):
        keys = [("x",), ("y",), ("z",), ("x", "y")]
        for many in range(4):
            self.assertEqual(tuple(keys[:many]), table(unique=keys[:many]).unique)
        self.check("unique", table, unique=keys)

    def test_keys_with_the_same_columns(self):
        self.check("unique", table, unique=[("x",), ("x",)])
        self.check("unique", table, unique=[("x", "y"), ("z",), ("y", "x")])
        self.check("unique", table, unique=[("x", "y", "z"), ("z", "x", "y")])
        self.assertEqual(3, len(table(unique=[("x", "y"), ("x", "z"), ("x",)]).unique))

    def test_references_of_any_value(self):
        for thing in ANYTHING:
            if thing not in ([], ()):
                self.check("references", table, references=thing)

    def test_references(self):
        good = (("x", "y"), "u", ("a", "b"))
        self.assertEqual((good,), table(references=[good]).references)
        self.assertEqual((good, good), table(references=(good, good)).references)
        for columns in ((), ["x", "y"], "xy", ("x", "x"), ("x", "a"), ("x", None), (("x",), "y"), (["x"], "y"), None,
                        {"x": 1, "y": 2}, 2, ("x", X)):
            self.check("references", table, references=[(columns, "u", ("a", "b"))])
        for name in NO_NAMES:
            self.check("references", table, references=[(("x", "y"), name, ("a", "b"))])
        for key in ((), ["a", "b"], "ab", ("a", "a"), ("a", "A"), ("a", None), (("a",), "b"), (["a"], "b"), None,
                    {"a": 1, "b": 2}, 2, ("a", "select"), ("a",), ("a", "b", "c")):
            self.check("references", table, references=[(("x", "y"), "u", key)])
        for thing in ((), good[:2], good + (1,), list(good), "xyz", None, 3, {}, good[0]):
            self.check("references", table, references=[thing])
            self.check("references", table, references=[good, thing])

    def test_number_of_references(self):
        references = [((name,), "u", ("a",)) for name in "xyz"]
        for many in range(3):
            self.assertEqual(tuple(references[:many]), table(references=references[:many]).references)
        self.check("references", table, references=references)

    def test_a_table_alone_looks_at_its_own_columns(self):
        # No key, another kind, another order: only a schema can see it.
        own = Table("t", [X, Z], unique=[("x", "z")], references=[(("x",), "t", ("z",)), (("x",), "t", ("q",))])
        self.assertEqual(2, len(own.references))

    def test_the_first_wrong_argument(self):
        self.check("name", Table, "", [], unique=1, references=1)
        self.check("columns", Table, "t", [], unique=1, references=1)
        self.check("unique", Table, "t", [X], unique=1, references=1)
        self.check("references", Table, "t", [X], unique=(), references=1)

    def test_place_of(self):
        self.assertEqual([0, 1, 2], [table().place_of(name) for name in "xyz"])
        for thing in ANYTHING + ["a", "X", "xy", X]:
            if thing != "x":
                with self.assertRaises(UnknownColumn) as caught:
                    table().place_of(thing)
                self.assertIsNone(caught.exception.alias)
                self.assertEqual(thing, caught.exception.word)

    def test_len_and_in(self):
        self.assertEqual((3, 1), (len(table()), len(Table("t", [X]))))
        for name in "xyz":
            self.assertIs(True, name in table())
        for thing in ANYTHING + ["t", "xy"]:
            if thing != "x":
                self.assertIs(False, thing in table())

    def test_equality(self):
        one = table(unique=[("x",)], references=[(("x",), "t", ("x",))])
        self.assertEqual(one, table(columns=[X, Y, Z], unique=(("x",),), references=((("x",), "t", ("x",)),)))
        self.assertIs(True, one == table(unique=[("x",)], references=[(("x",), "t", ("x",))]))
        for other in (
            table(name="u", unique=[("x",)], references=[(("x",), "t", ("x",))]),
            table(columns=[Y, X, Z], unique=[("x",)], references=[(("x",), "t", ("x",))]),
            table(unique=[("y",)], references=[(("x",), "t", ("x",))]),
            table(unique=[("x",)]),
            table(references=[(("x",), "t", ("x",))]),
        ):
            self.assertIs(False, one == other)
        for thing in ANYTHING:
            self.assertIs(False, one == thing)

    def test_what_is_passed_may_be_changed(self):
        columns, unique, references = [X, Y], [("x",)], [(("x",), "t", ("x",))]
        one = Table("t", columns, unique=unique, references=references)
        columns.append(Z)
        unique.clear()
        references[0] = None
        self.assertEqual((X, Y), one.columns)
        self.assertEqual((("x",),), one.unique)
        self.assertEqual(((("x",), "t", ("x",)),), one.references)
        self.assertFalse("z" in one)
        self.assertEqual(2, len(one))


class Schemas(Raising):
    def test_properties(self):
        one, other = table(), table(name="u")
        schema = Schema(one, other)
        self.assertEqual((one, other), schema.tables)
        self.assertIsInstance(schema.tables, tuple)
        self.assertEqual((2, 1), (len(schema), len(Schema(one))))

    def test_tables_of_any_value(self):
        for thing in ANYTHING:
            if thing != table(columns=[X]):
                self.check("tables", Schema, thing)
                self.check("tables", Schema, table(name="u"), thing)
        self.check("tables", Schema, [table()])
        self.check("tables", Schema, X)
        self.check("tables", Schema, Schema(table()))

    def test_number_of_tables(self):
        tables = [table(name=name) for name in "abcdefg"]
        for many in range(1, 7):
            self.assertEqual(many, len(Schema(*tables[:many])))
        self.check("tables", Schema, *tables)
        self.check("tables", Schema)

    def test_tables_with_the_same_name(self):
        self.check("tables", Schema, table(), table())
        self.check("tables", Schema, table(), table(name="u"), table(columns=[X]))

    def test_tables_come_ahead_of_references(self):
        bad = table(references=[(("x",), "u", ("x",))])
        self.check("tables", Schema, bad, bad)
        self.check("references", Schema, bad)

    def fits(self, *tables):
        self.assertEqual(len(tables), len(Schema(*tables)))

    def fails(self, *tables):
        self.check("references", Schema, *tables)

    def test_references(self):
        u = Table("u", [X, Y, Z], unique=[("x",), ("z", "y")])
        for columns, key, fits in (
            (("x",), ("x",), True), (("y",), ("x",), True), (("z",), ("x",), False), (("x",), ("y",), False),
            (("x",), ("a",), False), (("z", "x"), ("z", "y"), True), (("z", "y"), ("z", "y"), True),
            (("x", "z"), ("z", "y"), False), (("z", "x"), ("y", "z"), False), (("y", "z"), ("y", "z"), False),
            (("z", "y"), ("z", "x"), False), (("x", "y"), ("z", "y"), False),
        ):
            t = table(references=[(columns, "u", key)])
            (self.fits if fits else self.fails)(t, u)
            (self.fits if fits else self.fails)(u, t)
            later = table(references=[(("x",), "u", ("x",)), (columns, "u", key)])
            (self.fits if fits else self.fails)(later, u)

    def test_references_to_no_table(self):
        t = table(unique=[("x",)], references=[(("x",), "u", ("x",))])
        self.fails(t)
        self.fails(t, table(name="v", unique=[("x",)]))
        self.fits(t, table(name="u", unique=[("x",)]))

    def test_references_to_no_key(self):
        self.fails(table(references=[(("x",), "u", ("x",))]), table(name="u"))
        self.fails(table(unique=[("x",)], references=[(("x",), "u", ("x",))]), table(name="u"))
        self.fails(table(references=[(("x",), "u", ("x",))]), table(name="u", unique=[("x", "y")]))

    def test_references_to_the_table_itself(self):
        self.fits(table(unique=[("x",)], references=[(("y",), "t", ("x",))]))
        self.fits(table(unique=[("x",)], references=[(("x",), "t", ("x",))]))
        self.fails(table(unique=[("x",)], references=[(("x",), "t", ("y",))]))
        self.fails(table(unique=[("x",)], references=[(("z",), "t", ("x",))]))

    def test_a_reference_of_a_later_table(self):
        good = table(unique=[("x",)])
        self.fails(good, table(name="u", references=[(("x",), "t", ("y",))]))
        self.fits(good, table(name="u", references=[(("x",), "t", ("x",))]))

    def test_tables_by_name(self):
        one, other = table(), table(name="u")
        schema = Schema(one, other)
        self.assertIs(one, schema["t"])
        self.assertIs(other, schema["u"])
        for thing in ANYTHING + ["x", 0, 1, slice(0, 1)]:
            if thing != "t":
                with self.assertRaises(UnknownTable) as caught:
                    schema[thing]
                self.assertEqual(thing, caught.exception.word)

    def test_in(self):
        schema = Schema(table(), table(name="u"))
        self.assertIs(True, "t" in schema)
        self.assertIs(True, "u" in schema)
        for thing in ANYTHING + ["tu", table()]:
            if thing != "t":
                self.assertIs(False, thing in schema)

    def test_it_is_not_iterated_over(self):
        self.assertRaises(TypeError, iter, Schema(table()))

    def test_equality(self):
        self.assertIs(True, Schema(table(), table(name="u")) == Schema(table(), table(name="u")))
        for other in (Schema(table()), Schema(table(name="u"), table()), Schema(table(), table(name="v")),
                      Schema(table(), table(name="u", unique=[("x",)]))):
            self.assertIs(False, Schema(table(), table(name="u")) == other)
        for thing in ANYTHING + [table()]:
            self.assertIs(False, Schema(table()) == thing)


if __name__ == "__main__":
    unittest.main()
