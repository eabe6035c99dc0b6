"""Columns, tables and schemas [15]."""

from innerasks.errors import InvalidSchema, UnknownColumn, UnknownTable
from innerasks.words import is_name

KINDS = ("whole", "text")
MOST_COLUMNS = 6
MOST_KEYS = 3
MOST_REFERENCES = 2
MOST_TABLES = 6


def is_list(thing, least, most):
    """Whether it is a list or a tuple with so many items."""
    return isinstance(thing, (list, tuple)) and least <= len(thing) <= most


def are_different(names):
    """Whether no two names are the same."""
    return len(set(names)) == len(names)


def are_columns(thing):
    """Whether it can be the list of columns of a table."""
    if not is_list(thing, 1, MOST_COLUMNS):
        return False
    if not all([isinstance(part, Column) for part in thing]):
        return False
    return are_different([part.name for part in thing])


def are_names(thing):
    """Whether it is a tuple of one or more different names."""
    if not isinstance(thing, tuple) or len(thing) == 0:
        return False
    return all([is_name(part) for part in thing]) and are_different(thing)


def are_names_of(thing, names):
    """Whether it is a tuple of one or more different names out of those told."""
    return are_names(thing) and all([part in names for part in thing])


def are_keys(thing, names):
    """Whether it can be the list of keys of a table with columns of these names."""
    if not is_list(thing, 0, MOST_KEYS):
        return False
    if not all([are_names_of(key, names) for key in thing]):
        return False
    # Two keys with the same columns in another order say the same.
    return are_different([tuple(sorted(key)) for key in thing])


def is_reference(thing, names):
    """Whether it has the form of a reference of a table with columns of these names."""
    if not isinstance(thing, tuple) or len(thing) != 3:
        return False
    columns, table, key = thing
    if not are_names_of(columns, names) or not is_name(table):
        return False
    return are_names(key) and len(key) == len(columns)


def are_references(thing, names):
    """Whether it can be the list of references of a table with columns of these names."""
    if not is_list(thing, 0, MOST_REFERENCES):
        return False
    return all([is_reference(part, names) for part in thing])


def are_tables(thing):
    """Whether it can be the tables of a schema."""
    if not is_list(thing, 1, MOST_TABLES):
        return False
    if not all([isinstance(part, Table) for part in thing]):
        return False
    return are_different([part.name for part in thing])


def kinds_of(table, names):
    """The kinds of the columns with these names, in their order."""
    return [table.columns[table.place_of(name)].kind for name in names]


def reference_fits(table, reference, tables):
    """Whether a reference of a table leads to a key of one of the tables, with the same kinds."""
    columns, name, key = reference
    for other in tables:
        if other.name == name:
            return key in other.unique and kinds_of(table, columns) == kinds_of(other, key)
    return False


class Column:
    """A column of a table: its name, its kind, and whether it is required."""

    def __init__(self, name, kind, *, required=False):
        if not is_name(name):
            raise InvalidSchema("name")
        if kind not in KINDS:
            raise InvalidSchema("kind")
        self._name = name
        self._kind = kind
        self._required = required

    @property
    def name(self):
        """Its name."""
        return self._name

    @property
    def kind(self):
        """Its kind, "whole" or "text"."""
        return self._kind

    @property
    def required(self):
        """Whether null is not allowed in it."""
        return self._required

    def __eq__(self, other):
        return (isinstance(other, Column) and self._name == other._name and self._kind == other._kind
                and self._required == other._required)


class Table:
    """A table: its name, its columns, its keys and its references."""

    def __init__(self, name, columns, *, unique=(), references=()):
        if not is_name(name):
            raise InvalidSchema("name")
        if not are_columns(columns):
            raise InvalidSchema("columns")
        names = tuple([column.name for column in columns])
        if not are_keys(unique, names):
            raise InvalidSchema("unique")
        if not are_references(references, names):
            raise InvalidSchema("references")
        self._name = name
        self._columns = tuple(columns)
        self._labels = names
        self._unique = tuple(unique)
        self._references = tuple(references)

    @property
    def name(self):
        """Its name."""
        return self._name

    @property
    def columns(self):
        """Its columns, in order."""
        return self._columns

    @property
    def unique(self):
        """Its keys: tuples of names of columns."""
        return self._unique

    @property
    def references(self):
        """Its references: tuples (columns, table, key)."""
        return self._references

    def place_of(self, name):
        """The index of the column with this name; UnknownColumn for any other value."""
        if name not in self._labels:
            raise UnknownColumn(None, name)
        return self._labels.index(name)

    def __len__(self):
        return len(self._columns)

    def __contains__(self, x):
        return x in self._labels

    def __eq__(self, other):
        return (isinstance(other, Table) and self._name == other._name and self._columns == other._columns
                and self._unique == other._unique and self._references == other._references)


class Schema:
    """The tables of a database."""

    def __init__(self, *tables):
        if not are_tables(tables):
            raise InvalidSchema("tables")
        if not all([reference_fits(table, part, tables) for table in tables for part in table.references]):
            raise InvalidSchema("references")
        self._tables = tables
        # From names: an operator must not call `index`, which errors of the package hold, too.
        self._by_name = {table.name: table for table in tables}
        self._labels = tuple(self._by_name)

    @property
    def tables(self):
        """Its tables, in order."""
        return self._tables

    def __getitem__(self, at):
        if at not in self._labels:
            raise UnknownTable(at)
        return self._by_name[at]

    def __iter__(self):
        raise TypeError("a schema is not iterated over: take its tables")

    def __len__(self):
        return len(self._tables)

    def __contains__(self, x):
        return x in self._labels

    def __eq__(self, other):
        return isinstance(other, Schema) and self._tables == other._tables
