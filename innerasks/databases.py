"""Databases, and what it is to keep a schema [16]."""

from innerasks.errors import Broken, InvalidRows, UnknownTable
from innerasks.values import in_order, is_row, kind_of

MOST_ROWS = 40


def is_row_of(table, thing):
    """Whether it is a row with a value of its kind, or null, for each column of a table."""
    if not is_row(thing) or len(thing) != len(table):
        return False
    return all([kind_of(value) in (None, column.kind) for value, column in zip(thing, table.columns)])


def are_rows_of(table, thing):
    """Whether it can be the list of rows of a table."""
    if not isinstance(thing, (list, tuple)) or len(thing) > MOST_ROWS:
        return False
    return all([is_row_of(table, row) for row in thing])


def bags_of(schema, rows):
    """The bag of each table of a schema, by its name, from a dict of lists of rows."""
    told = {} if rows is None else rows
    unknown = [name for name in told if name not in schema]
    if len(unknown) > 0:
        raise UnknownTable(min(unknown))
    bags = {}
    for table in schema.tables:
        listed = told.get(table.name, ())
        if not are_rows_of(table, listed):
            raise InvalidRows(table.name)
        bags[table.name] = in_order(listed)
    return bags


def picked(table, names, row):
    """The values of a row of a table in the columns with these names."""
    return tuple([row[table.place_of(name)] for name in names])


def gap_in(table, bag):
    """The first break of a required column, or None."""
    for index, column in enumerate(table.columns):
        if not column.required:
            continue
        for row in bag:
            if row[index] is None:
                return ("required", table.name, index, row)
    return None


def clash_in(table, bag):
    """The first break of a key, or None."""
    for index, key in enumerate(table.unique):
        told = [picked(table, key, row) for row in bag]
        for row, values in zip(bag, told):
            if None not in values and told.count(values) > 1:
                return ("key", table.name, index, row)
    return None


def loose_end_in(schema, table, bags):
    """The first break of a reference, or None."""
    for index, (columns, name, key) in enumerate(table.references):
        there = [picked(schema[name], key, row) for row in bags[name]]
        for row in bags[table.name]:
            values = picked(table, columns, row)
            if None not in values and values not in there:
                return ("reference", table.name, index, row)
    return None


def break_in(schema, bags):
    """The first break of bags, or None."""
    for table in schema.tables:
        found = gap_in(table, bags[table.name])
        if found is None:
            found = clash_in(table, bags[table.name])
        if found is None:
            found = loose_end_in(schema, table, bags)
        if found is not None:
            return found
    return None


class Database:
    """A schema, and a bag for each of its tables, which keep it."""

    def __init__(self, schema, rows=None):
        bags = bags_of(schema, rows)
        found = break_in(schema, bags)
        if found is not None:
            raise Broken(found)
        self._schema = schema
        self._bags = bags

    @property
    def schema(self):
        """Its schema."""
        return self._schema

    @property
    def rows(self):
        """A new dict from all names of tables, by the schema, to new bags."""
        return {name: list(bag) for name, bag in self._bags.items()}

    @property
    def size(self):
        """The number of all its rows."""
        return sum([len(bag) for bag in self._bags.values()])

    def replaced(self, **rows):
        """The database with other rows for some tables."""
        return Database(self._schema, {**self._bags, **rows})

    @staticmethod
    def first_break(schema, rows):
        """The first break of such rows, or None."""
        return break_in(schema, bags_of(schema, rows))

    def __getitem__(self, at):
        if at not in self._schema:
            raise UnknownTable(at)
        return list(self._bags[at])

    def __iter__(self):
        raise TypeError("a database is not iterated over: take its rows")

    def __eq__(self, other):
        return isinstance(other, Database) and self._schema == other._schema and self._bags == other._bags
