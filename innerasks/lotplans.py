"""Nodes that look at lots of rows [41]: all rows with the same values in some columns."""

from innerasks.forms import are_numbers, is_aggregate, is_listed, is_number, moved, renumbered_aggregate
from innerasks.plans import Plan, are_fresh, are_in, are_pairs, check
from innerasks.values import is_whole


def is_order(thing):
    """Whether it is a list of tuples (column, whether down) with different columns."""
    if not is_listed(thing):
        return False
    if not all([isinstance(key, tuple) and len(key) == 2 and isinstance(key[1], bool) for key in thing]):
        return False
    return are_numbers([column for column, _ in thing])


class Number(Plan):
    """Each row with its index in its lot."""

    def __init__(self, plan, column, by=()):
        check(isinstance(plan, Plan), "part")
        check(is_number(column), "field")
        check(are_numbers(by) and column not in plan.columns, "columns")
        check(are_in(by, plan.columns), "missing")
        self._column = column
        self._by = tuple(by)
        Plan.__init__(self, (plan,), plan.columns + (column,), (column, self._by), ())

    @property
    def plan(self):
        """The plan below."""
        return self._parts[0]

    @property
    def column(self):
        """The column of the index."""
        return self._column

    @property
    def by(self):
        """The columns whose values are the same in a lot."""
        return self._by

    def remade(self, parts, uses, makes):
        """The node over other parts, with other numbers."""
        return Number(parts[0], makes.get(self._column, self._column), moved(self._by, uses))


class Group(Plan):
    """A row for each lot, with aggregates: tuples (column, aggregate)."""

    def __init__(self, plan, by, made):
        check(isinstance(plan, Plan), "part")
        check(are_pairs(made), "field")
        check(are_numbers(by) and are_fresh(made, by), "columns")
        check(are_in(by, plan.columns), "missing")
        check(all([is_aggregate(tree) for _, tree in made]), "expression")
        self._by = tuple(by)
        self._made = tuple(made)
        columns = self._by + tuple([column for column, _ in made])
        trees = tuple([tree[1] for _, tree in made if tree[1] is not None])
        Plan.__init__(self, (plan,), columns, (self._by, self._made), trees)

    @property
    def plan(self):
        """The plan below."""
        return self._parts[0]

    @property
    def by(self):
        """The columns whose values are the same in a lot."""
        return self._by

    @property
    def made(self):
        """The items: tuples (column, aggregate)."""
        return self._made

    def remade(self, parts, uses, makes):
        """The node over other parts, with other numbers."""
        made = [(makes.get(column, column), renumbered_aggregate(tree, uses)) for column, tree in self._made]
        return Group(parts[0], moved(self._by, uses), made)


class First(Plan):
    """The first rows of each lot, in an order: tuples (column, whether down)."""

    def __init__(self, plan, order, n, by=()):
        check(isinstance(plan, Plan), "part")
        check(is_order(order) and (n is None or is_whole(n) and n >= 0), "field")
        check(are_numbers(by), "columns")
        check(are_in([column for column, _ in order], plan.columns) and are_in(by, plan.columns), "missing")
        self._order = tuple(order)
        self._n = n
        self._by = tuple(by)
        Plan.__init__(self, (plan,), plan.columns, (self._order, n, self._by), ())

    @property
    def plan(self):
        """The plan below."""
        return self._parts[0]

    @property
    def order(self):
        """The order: tuples (column, whether down)."""
        return self._order

    @property
    def n(self):
        """How many rows of a lot; None for all."""
        return self._n

    @property
    def by(self):
        """The columns whose values are the same in a lot."""
        return self._by

    def remade(self, parts, uses, makes):
        """The node over other parts, with other numbers."""
        order = [(uses.get(column, column), is_down) for column, is_down in self._order]
        return First(parts[0], order, self._n, moved(self._by, uses))


def has_order(plan):
    """Whether the rows of a plan are told in an order of its own [43]: whether it is a First without by."""
    return isinstance(plan, First) and len(plan.by) == 0
