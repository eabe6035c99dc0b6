"""Rows of left that are matched with rows of right [42]."""

from innerasks.errors import Several
from innerasks.forms import conjuncts
from innerasks.values import either
from innerasks.worths import worth


class Seen:
    """What the expressions of a node see: the places of the columns of its parts, the surroundings, the parameters."""

    def __init__(self, spots, known, params):
        self.spots = spots
        self.known = known
        self.params = params
        self.row = ()

    def at_row(self, row):
        """The same at another row."""
        self.row = row
        return self

    def told(self, tree):
        """The worth of a column, a truth or a parameter."""
        word, name = tree
        if word == "param":
            return self.params[name]
        if name in self.spots:
            return self.row[self.spots[name]]
        return self.known[name]


def seen_columns(columns, row):
    """A dict from columns to the values of a row."""
    return {column: value for column, value in zip(columns, row)}


class Lots:
    """The rows of right by what they have in links: parts of the condition that hold for rows with the same values."""

    def __init__(self, plan, right):
        # A part with = is unknown beside a null, which a mark may tell.
        signs = ("is",) if plan.kind == "mark" else ("=", "is")
        self.here = []
        there = []
        for part in conjuncts(plan.condition):
            if part[0] in signs and part[1][0] == "column" and part[2][0] == "column":
                add_link(plan, part[1][1], part[2][1], self.here, there)
        self.indexes = {}
        for index, row in enumerate(right):
            self.indexes.setdefault(tuple([row[place] for place in there]), []).append(index)

    def near(self, row):
        """The indexes of the rows of right for which the condition can be True with a row of left."""
        return self.indexes.get(tuple([row[place] for place in self.here]), [])


def add_link(plan, one, other, here, there):
    """Adds the places of the columns of a link, in left and in right, if they are of both."""
    left = plan.left.columns
    right = plan.right.columns
    for column, fellow in ((one, other), (other, one)):
        if column in left and fellow in right:
            here.append(left.index(column))
            there.append(right.index(fellow))


def rows_of_sides(plan, seen, sides, right):
    """The rows of a join, from tuples (row of left, rows of right, indexes at which to look); full looks at right."""
    kind = plan.kind
    if kind == "mark":
        return [side[0] + (mark_of(plan, seen, side),) for side in sides]
    fits = [indexes_that_fit(plan, seen, side) for side in sides]
    if kind in ("semi", "anti"):
        return [side[0] for side, found in zip(sides, fits) if (len(found) > 0) == (kind == "semi")]
    if kind == "single" and any([len(found) > 1 for found in fits]):
        raise Several()
    nulls = (None,) * len(plan.right.columns)
    rows = []
    for (row, fellows, _), found in zip(sides, fits):
        rows.extend([row + fellows[index] for index in found])
        if len(found) == 0 and kind != "inner":
            rows.append(row + nulls)
    if kind == "full":
        met = {index: True for found in fits for index in found}
        lonely = [row for index, row in enumerate(right) if index not in met]
        rows.extend([(None,) * len(plan.left.columns) + row for row in lonely])
    return rows


def truths_of(plan, seen, side):
    """The truths of the condition for a row of left with the rows of right at which to look."""
    row, fellows, indexes = side
    return [worth(seen.at_row(row + fellows[index]), plan.condition) for index in indexes]


def indexes_that_fit(plan, seen, side):
    """The indexes of the rows of right for which the condition is True."""
    truths = truths_of(plan, seen, side)
    return [index for index, truth in zip(side[2], truths) if truth is True]


def mark_of(plan, seen, side):
    """The or of the truths of the condition for a row of left."""
    truths = truths_of(plan, seen, side)
    return either(*truths)
