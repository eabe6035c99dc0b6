"""The least database that tells two plans apart [56, 57]."""

from innerasks.databases import Database, clash_in
from innerasks.errors import Broken, InvalidStore, Several, TooMany
from innerasks.running import World, checked, rows_told
from innerasks.values import is_value, is_whole, kind_of, value_place

MOST_WORTHS = 4
MOST_ROWS = 6
MOST_CHOICES = 20000


def are_worths(thing):
    """Whether it is a list of 1 to 4 different values."""
    if not isinstance(thing, (list, tuple)) or not 1 <= len(thing) <= MOST_WORTHS:
        return False
    return all([is_value(part) for part in thing]) and len(set(thing)) == len(thing)


def worths_of(column, worths):
    """Those of the values that a column may hold."""
    kinds = (column.kind,) if column.required else (None, column.kind)
    return [value for value in worths if kind_of(value) in kinds]


def number_of_rows(table, worths):
    """How many rows a table can have, each once."""
    many = 1
    for column in table.columns:
        many *= len(worths_of(column, worths))
    return many


def number_chosen(different, most):
    """In how many ways at most so many can be chosen of different things, like ones too."""
    ways = 1
    for many in range(1, most + 1):
        # This is the number for so many, and so an integer each time.
        ways = ways * (different + many) // many
    return ways


def rows_possible(table, worths):
    """The rows that a table can have, in order."""
    rows = [()]
    for column in table.columns:
        rows = [row + (value,) for row in rows for value in worths_of(column, worths)]
    return rows


def bags_possible(table, rows, most):
    """For each number up to the most a list of the bags of so many rows that keep the keys of a table, in order."""
    # Each bag with the index of its last row, behind which no less one comes.
    bags = [[((), 0)]]
    for _ in range(most):
        bags.append([(bag + (rows[index],), index) for bag, last in bags[-1] for index in range(last, len(rows))
                     if clash_in(table, bag + (rows[index],)) is None])
    return [[bag for bag, _ in listed] for listed in bags]


def choices_possible(bags, many):
    """All choices of a bag for each table with so many rows together, in order; bags are as above for each table."""
    if len(bags) == 1:
        return [(bag,) for bag in bags[0][many]]
    found = []
    for size in range(many + 1):
        rest = choices_possible(bags[1:], many - size)
        found.extend([(bag,) + others for bag in bags[0][size] for others in rest])
    return found


def database_kept(schema, choice):
    """The database with a bag for each table; None if it does not keep its schema."""
    rows = {table.name: bag for table, bag in zip(schema.tables, choice)}
    try:
        return Database(schema, rows)
    except Broken:
        return None


def answer_of(database, plan, params):
    """The rows of a plan that is checked; None if its answer is Several."""
    try:
        return rows_told(World(database, params), plan)
    except Several:
        return None


class Store:
    """The small databases of a schema with few values."""

    def __init__(self, schema, worths, most):
        if not are_worths(worths):
            raise InvalidStore("worths")
        if not is_whole(most) or not 0 <= most <= MOST_ROWS:
            raise InvalidStore("most")
        self._schema = schema
        self._worths = tuple(sorted(worths, key=value_place))
        self._most = most
        different = sum([number_of_rows(table, self._worths) for table in schema.tables])
        self._choices = number_chosen(different, most)

    @property
    def schema(self):
        """The schema."""
        return self._schema

    @property
    def worths(self):
        """The values, in order."""
        return self._worths

    @property
    def most(self):
        """How many rows a database has at most."""
        return self._most

    @property
    def number_of_choices(self):
        """In how many ways rows can be chosen, whether they keep the schema or not."""
        return self._choices

    def walk(self):
        """The databases, in order."""
        if self._choices > MOST_CHOICES:
            raise TooMany(MOST_CHOICES)
        bags = []
        for table in self._schema.tables:
            bags.append(bags_possible(table, rows_possible(table, self._worths), self._most))
        for many in range(self._most + 1):
            for choice in choices_possible(bags, many):
                database = database_kept(self._schema, choice)
                if database is not None:
                    yield database

    def parted(self, one, other, *, params=None):
        """The least database that tells two plans apart; None if there is none."""
        if self._choices > MOST_CHOICES:
            raise TooMany(MOST_CHOICES)
        told = checked(self._schema, one, params)
        told_too = checked(self._schema, other, params)
        for database in self.walk():
            if answer_of(database, one, told) != answer_of(database, other, told_too):
                return database
        return None

    @staticmethod
    def tells_apart(database, one, other, *, params=None):
        """Whether the answers of two plans differ in a database."""
        told = checked(database.schema, one, params)
        told_too = checked(database.schema, other, params)
        return answer_of(database, one, told) != answer_of(database, other, told_too)
