"""The plain meaning of bound questions [30 to 36]."""

from innerasks.bags import combined, once, sorted_by
from innerasks.errors import Several
from innerasks.parameters import parameters_in, passed
from innerasks.trees import SIDED, set_aside
from innerasks.values import aggregate, both, compare, either, in_order
from innerasks.worths import worth


class Around:
    """What is known where an expression stands: the database, the parameters, a row of each select around it."""

    def __init__(self, base, params, levels, told_ahead=()):
        self.base = base
        self.params = params
        # The nearest first.
        self.levels = levels
        # The values of the aggregates of the nearest select.
        self.told_ahead = told_ahead

    def within(self, row):
        """What is known in a select around which this is known, at one of its rows."""
        return Around(self.base, self.params, (row,) + self.levels)

    def told(self, tree):
        """The worth of a parameter, a column, an aggregate that is told ahead, or a question."""
        word = tree[0]
        if word == "param":
            return self.params[tree[1]]
        if word == "at":
            return self.levels[tree[1]][tree[2]]
        if word == "told":
            return self.told_ahead[tree[1]]
        return worth_of_asking(self, tree)


def answer(database, question, *, params=None):
    """The rows of the answer of a bound question."""
    told = passed(parameters_in(question), params)
    rows = rows_asked(Around(database, told, ()), question)
    # Only a question with an order has one of its own.
    return rows if question[0] == "first" else in_order(rows)


def worth_of_asking(around, tree):
    """The worth of one, exists, in, any and all."""
    word = tree[0]
    value = worth(around, tree[-2]) if word in SIDED else None
    rows = rows_asked(around, tree[-1])
    if word == "exists":
        return len(rows) > 0
    if word == "one":
        if len(rows) > 1:
            raise Several()
        return rows[0][0] if len(rows) == 1 else None
    sign = "=" if word == "in" else tree[1]
    truths = [compare(sign, value, row[0]) for row in rows]
    return both(*truths) if word == "all" else either(*truths)


# Questions.

def rows_asked(around, question):
    """The rows of a question; those of a first in its order, all others in any."""
    word = question[0]
    if word == "select":
        rows = rows_selected(around, question)
        return once(rows) if question[1] else rows
    if word == "first":
        _, inner, order, n = question
        rows = sorted_by(rows_asked(around, inner), order)
        return rows if n is None else rows[:n]
    _, is_all, one, other = question
    left = rows_asked(around, one)
    right = rows_asked(around, other)
    if is_all:
        return combined(word, left, right)
    return once(combined(word, once(left), right))


def rows_selected(around, question):
    """The rows of a select, those that are the same as often as they come."""
    _, _, items, source, where, groups, _ = question
    rows = source_rows(around, source, 0)
    if where is not None:
        truths = [worth(around.within(row), where) for row in rows]
        rows = [row for row, truth in zip(rows, truths) if truth is True]
    if groups is not None:
        return rows_grouped(around, question, rows)
    return [row_of_items(around.within(row), items) for row in rows]


def row_of_items(around, items):
    """The row of the items."""
    return tuple([worth(around, e) for e, _ in items])


# Groups.

def rows_grouped(around, question, rows):
    """The rows of a grouped select, from the rows that where keeps."""
    _, _, items, _, _, groups, having = question
    asked = []
    condition = None if having is None else set_aside(having, asked)
    told = [(set_aside(e, asked), name) for e, name in items]
    # Each kept row with what the arguments of all aggregates are worth for it.
    looked = [(row, [worth(around.within(row), argument(part)) for part in asked]) for row in rows]
    inner = [around_group(around, asked, lot) for lot in lots_by(looked, groups)]
    if having is not None:
        truths = [worth(group, condition) for group in inner]
        inner = [group for group, truth in zip(inner, truths) if truth is True]
    return [row_of_items(group, told) for group in inner]


def argument(tree):
    """What an aggregate looks at; the number of rows is that of values that are not null."""
    return ("value", 0) if tree[1] is None else tree[1]


def lots_by(looked, groups):
    """The lots of rows, each with its arguments, by groups; one lot without groups, also of no rows."""
    if len(groups) == 0:
        return [looked]
    lots = {}
    for row, worths in looked:
        lots.setdefault(tuple([row[place] for _, _, place in groups]), []).append((row, worths))
    return list(lots.values())


def around_group(around, asked, lot):
    """What is known at a group: its aggregates, and one of its rows for the values of its groups."""
    told = []
    for index, tree in enumerate(asked):
        is_distinct = tree[0] == "count" and tree[2]
        told.append(aggregate(tree[0], [worths[index] for _, worths in lot], distinct=is_distinct))
    row = lot[0][0] if len(lot) > 0 else ()
    return Around(around.base, around.params, (row,) + around.levels, tuple(told))


# Sources.

def source_rows(around, source, ahead):
    """The rows of a source, behind so many places in the row of its select."""
    if source[0] == "table":
        return around.base[source[1]]
    if source[0] == "question":
        return rows_asked(around, source[1])
    return rows_joined(around, source, ahead)


def width(around, source):
    """The number of columns of a source."""
    many = 0
    waiting = [source]
    while len(waiting) > 0:
        part = waiting.pop()
        if part[0] == "table":
            many += len(around.base.schema[part[1]])
        elif part[0] == "question":
            many += items_asked(part[1])
        else:
            waiting.extend([part[2], part[3]])
    return many


def items_asked(question):
    """The number of items of a question."""
    part = question
    while part[0] != "select":
        part = part[1] if part[0] == "first" else part[2]
    return len(part[2])


def rows_joined(around, source, ahead):
    """The rows of a join: its condition is looked at for all pairs."""
    _, kind, one, other, condition = source
    left = source_rows(around, one, ahead)
    many = width(around, one)
    right = source_rows(around, other, ahead + many)
    if kind == "cross":
        return [row + fellow for row in left for fellow in right]
    # The places count from the beginning of the row of the select.
    gap = (None,) * ahead
    fits = [[worth(around.within(gap + row + fellow), condition) is True for fellow in right] for row in left]
    rows = [row + fellow for row, truths in zip(left, fits) for fellow, fit in zip(right, truths) if fit]
    if kind in ("left", "full"):
        nulls = (None,) * width(around, other)
        rows.extend([row + nulls for row, truths in zip(left, fits) if not any(truths)])
    if kind == "full":
        met = [any([truths[index] for truths in fits]) for index in range(len(right))]
        rows.extend([(None,) * many + fellow for fellow, is_met in zip(right, met) if not is_met])
    return rows
