"""Plans [40]: what all nodes have, and the nodes that look at single rows [41]."""

from innerasks.errors import InvalidPlan, NoPlace
from innerasks.forms import are_numbers, columns_in, is_condition, is_expression, is_listed, moved, renumbered
from innerasks.values import is_row, is_whole
from innerasks.words import is_name


def check(holds, word):
    """An argument that word names must be right."""
    if not holds:
        raise InvalidPlan(word)


def are_in(columns, there):
    """Whether all of these columns are there."""
    return all([column in there for column in columns])


def are_pairs(thing):
    """Whether it is a list of tuples with two entries."""
    return is_listed(thing) and all([isinstance(part, tuple) and len(part) == 2 for part in thing])


def are_fresh(made, columns):
    """Whether the items have numbers that are different, and are none of these columns."""
    numbers = [column for column, _ in made]
    return are_numbers(numbers) and not any([column in columns for column in numbers])


def are_rows(thing, columns):
    """Whether it is a list of rows, as long as the columns, if these are a list."""
    if not is_listed(thing) or not all([is_row(row) for row in thing]):
        return False
    return not is_listed(columns) or all([len(row) == len(columns) for row in thing])


def free_in(parts, trees, known):
    """The columns that are used in parts and trees, are in no part, and are not known; ascending."""
    there = {column: True for part in parts for column in part.columns}
    used = [column for tree in trees for column in columns_in(tree) if column not in there]
    used.extend([column for part in parts for column in part.free if column not in known])
    return tuple(sorted(set(used)))


class Plan:
    """A plan: a node with its parts. A node of each class knows how it is made again."""

    def __init__(self, parts, columns, fields, trees, known=()):
        # Trees are the expressions and conditions of the node; known are free columns of parts that the node knows.
        self._parts = parts
        self._columns = columns
        self._fields = fields
        self._trees = trees
        self._free = free_in(parts, trees, known)
        self._size = 1 + sum([len(part) for part in parts])
        self._word = self.__class__.__name__
        check(not any([column in columns for column in self._free]), "free")

    @property
    def columns(self):
        """The columns of its rows, in order."""
        return self._columns

    @property
    def parts(self):
        """The plans right below it, from left to right."""
        return self._parts

    @property
    def free(self):
        """The columns of the surroundings that it uses, ascending."""
        return self._free

    @property
    def fields(self):
        """The arguments of the node in order, parts left out."""
        return self._fields

    @property
    def trees(self):
        """The expressions and conditions of the node itself, in order; of aggregates what they take."""
        return self._trees

    def __len__(self):
        return len(range(self._size))

    def __eq__(self, other):
        return (isinstance(other, Plan) and self._word == other._word and self._fields == other._fields
                and self._parts == other._parts)

    def walk(self):
        """Tuples (path, plan): the plan itself, then those of its parts, from left to right."""
        waiting = [((), self)]
        while len(waiting) > 0:
            path, node = waiting.pop()
            yield (path, node)
            below = [(path + (index,), part) for index, part in enumerate(node.parts)]
            waiting.extend(below[::-1])

    def at(self, path):
        """The node at a path; NoPlace for any value that is no path of one."""
        return self.along(path)[-1]

    def along(self, path):
        """The nodes from the plan itself to the one at a path."""
        if not isinstance(path, tuple):
            raise NoPlace(path)
        nodes = [self]
        for index in path:
            below = nodes[-1].parts
            if not is_whole(index) or not 0 <= index < len(below):
                raise NoPlace(path)
            nodes.append(below[index])
        return nodes

    def put(self, path, other):
        """The plan with another one at a path."""
        above = self.along(path)
        check(isinstance(other, Plan), "part")
        made = other
        for depth in reversed(range(len(path))):
            parts = list(above[depth].parts)
            parts[path[depth]] = made
            made = above[depth].remade(parts, {}, {})
        return made

    def remade(self, parts, uses, makes):
        """The node over other parts, with other numbers for the columns that it uses, and for those that it makes."""
        raise NotImplementedError("each class of nodes has its own")

    def renamed(self, numbers):
        """The plan with other numbers for its columns, free and hidden ones too."""
        parts = [part.renamed(numbers) for part in self._parts]
        return self.remade(parts, numbers, numbers)


class Rows(Plan):
    """Rows that are told."""

    def __init__(self, columns, rows):
        check(are_rows(rows, columns), "field")
        check(are_numbers(columns), "columns")
        self._rows = tuple(rows)
        Plan.__init__(self, (), tuple(columns), (tuple(columns), tuple(rows)), ())

    @property
    def columns(self):
        """The columns."""
        return self._columns

    @property
    def rows(self):
        """The rows, as long as the columns."""
        return self._rows

    def remade(self, parts, uses, makes):
        """The node over other parts, with other numbers."""
        return Rows(moved(self._columns, makes), self._rows)


class Scan(Plan):
    """The rows of a table."""

    def __init__(self, table, columns):
        check(is_name(table), "field")
        check(are_numbers(columns), "columns")
        self._table = table
        Plan.__init__(self, (), tuple(columns), (table, tuple(columns)), ())

    @property
    def table(self):
        """The name of the table."""
        return self._table

    @property
    def columns(self):
        """The numbers of its columns."""
        return self._columns

    def remade(self, parts, uses, makes):
        """The node over other parts, with other numbers."""
        return Scan(self._table, moved(self._columns, makes))


class Filter(Plan):
    """The rows for which a condition is True."""

    def __init__(self, plan, condition):
        check(isinstance(plan, Plan), "part")
        check(is_condition(condition), "expression")
        self._condition = condition
        Plan.__init__(self, (plan,), plan.columns, (condition,), (condition,))

    @property
    def plan(self):
        """The plan below."""
        return self._parts[0]

    @property
    def condition(self):
        """The condition."""
        return self._condition

    def remade(self, parts, uses, makes):
        """The node over other parts, with other numbers."""
        return Filter(parts[0], renumbered(self._condition, uses))


class Compute(Plan):
    """Each row with more columns: tuples (column, expression or condition)."""

    def __init__(self, plan, made):
        check(isinstance(plan, Plan), "part")
        check(are_pairs(made), "field")
        check(are_fresh(made, plan.columns), "columns")
        check(all([is_expression(tree) or is_condition(tree) for _, tree in made]), "expression")
        self._made = tuple(made)
        columns = plan.columns + tuple([column for column, _ in made])
        Plan.__init__(self, (plan,), columns, (self._made,), tuple([tree for _, tree in made]))

    @property
    def plan(self):
        """The plan below."""
        return self._parts[0]

    @property
    def made(self):
        """The items: tuples (column, expression or condition)."""
        return self._made

    def remade(self, parts, uses, makes):
        """The node over other parts, with other numbers."""
        return Compute(parts[0], [(makes.get(column, column), renumbered(tree, uses)) for column, tree in self._made])


class Keep(Plan):
    """Each row with some of its columns alone."""

    def __init__(self, plan, columns):
        check(isinstance(plan, Plan), "part")
        check(are_numbers(columns), "columns")
        check(are_in(columns, plan.columns), "missing")
        Plan.__init__(self, (plan,), tuple(columns), (tuple(columns),), ())

    @property
    def plan(self):
        """The plan below."""
        return self._parts[0]

    @property
    def columns(self):
        """The columns that are kept, in this order."""
        return self._columns

    def remade(self, parts, uses, makes):
        """The node over other parts, with other numbers."""
        return Keep(parts[0], moved(self._columns, uses))


class Distinct(Plan):
    """Each row once."""

    def __init__(self, plan):
        check(isinstance(plan, Plan), "part")
        Plan.__init__(self, (plan,), plan.columns, (), ())

    @property
    def plan(self):
        """The plan below."""
        return self._parts[0]

    def remade(self, parts, uses, makes):
        """The node over other parts."""
        return Distinct(parts[0])
