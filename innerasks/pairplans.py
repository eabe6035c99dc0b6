"""Nodes with two parts [41], and joins [42]."""

from innerasks.forms import are_numbers, is_condition, is_number, moved, renumbered
from innerasks.plans import Plan, check

# Kinds of joins with the columns of both parts.
WIDE = ("inner", "left", "full", "single")


def check_sides(one, other, columns):
    """The arguments of a Union and its kin must be right."""
    check(isinstance(one, Plan) and isinstance(other, Plan), "part")
    check(are_numbers(columns), "columns")
    check(len(one.columns) == len(columns) == len(other.columns), "missing")


def are_apart(columns, others):
    """Whether no column is in both."""
    return not any([column in others for column in columns])


class Union(Plan):
    """The rows of both parts."""

    def __init__(self, one, other, columns):
        check_sides(one, other, columns)
        Plan.__init__(self, (one, other), tuple(columns), (tuple(columns),), ())

    @property
    def one(self):
        """The first part."""
        return self._parts[0]

    @property
    def other(self):
        """The second part."""
        return self._parts[1]

    @property
    def columns(self):
        """The numbers of its columns."""
        return self._columns

    def remade(self, parts, uses, makes):
        """The node over other parts, with other numbers."""
        return Union(parts[0], parts[1], moved(self._columns, makes))


class Except(Plan):
    """The rows of one, without as many like ones as other has."""

    def __init__(self, one, other, columns):
        check_sides(one, other, columns)
        Plan.__init__(self, (one, other), tuple(columns), (tuple(columns),), ())

    @property
    def one(self):
        """The first part."""
        return self._parts[0]

    @property
    def other(self):
        """The second part."""
        return self._parts[1]

    @property
    def columns(self):
        """The numbers of its columns."""
        return self._columns

    def remade(self, parts, uses, makes):
        """The node over other parts, with other numbers."""
        return Except(parts[0], parts[1], moved(self._columns, makes))


class Intersect(Plan):
    """The rows of both parts, as often as in the one that has fewer of them."""

    def __init__(self, one, other, columns):
        check_sides(one, other, columns)
        Plan.__init__(self, (one, other), tuple(columns), (tuple(columns),), ())

    @property
    def one(self):
        """The first part."""
        return self._parts[0]

    @property
    def other(self):
        """The second part."""
        return self._parts[1]

    @property
    def columns(self):
        """The numbers of its columns."""
        return self._columns

    def remade(self, parts, uses, makes):
        """The node over other parts, with other numbers."""
        return Intersect(parts[0], parts[1], moved(self._columns, makes))


class Join(Plan):
    """Rows of left with rows of right for which a condition is True, in one of several kinds."""

    KINDS = ("inner", "left", "full", "semi", "anti", "mark", "single")
    KNOWS_LEFT = False

    def __init__(self, kind, left, right, condition, column=None):
        check(isinstance(left, Plan) and isinstance(right, Plan), "part")
        check(kind in self.KINDS and (is_number(column) if kind == "mark" else column is None), "field")
        check(are_apart(left.columns, right.columns) and column not in left.columns, "columns")
        check(is_condition(condition), "expression")
        check(are_apart(left.free, right.columns), "free")
        self._kind = kind
        self._condition = condition
        self._column = column
        columns = left.columns
        if kind in WIDE:
            columns = left.columns + right.columns
        elif kind == "mark":
            columns = left.columns + (column,)
        known = left.columns if self.KNOWS_LEFT else ()
        Plan.__init__(self, (left, right), columns, (kind, condition, column), (condition,), known)

    @property
    def kind(self):
        """Its kind."""
        return self._kind

    @property
    def left(self):
        """The left part."""
        return self._parts[0]

    @property
    def right(self):
        """The right part."""
        return self._parts[1]

    @property
    def condition(self):
        """The condition."""
        return self._condition

    @property
    def column(self):
        """The column of the truth of a mark; None for other kinds."""
        return self._column

    def remade(self, parts, uses, makes):
        """The node over other parts, with other numbers."""
        column = makes.get(self._column, self._column)
        return Join(self._kind, parts[0], parts[1], renumbered(self._condition, uses), column)


class Depend(Join):
    """A join whose right part is run for each row of left, with the columns of left known."""

    KINDS = ("inner", "left", "semi", "anti", "mark", "single")
    KNOWS_LEFT = True

    def __init__(self, kind, left, right, condition, column=None):
        Join.__init__(self, kind, left, right, condition, column)

    @property
    def kind(self):
        """Its kind."""
        return self._kind

    @property
    def left(self):
        """The left part."""
        return self._parts[0]

    @property
    def right(self):
        """The right part, which may use columns of left."""
        return self._parts[1]

    @property
    def condition(self):
        """The condition."""
        return self._condition

    @property
    def column(self):
        """The column of the truth of a mark; None for other kinds."""
        return self._column

    def remade(self, parts, uses, makes):
        """The node over other parts, with other numbers."""
        column = makes.get(self._column, self._column)
        return Depend(self._kind, parts[0], parts[1], renumbered(self._condition, uses), column)
