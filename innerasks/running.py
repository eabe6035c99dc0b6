"""Plans are run [43]."""

from innerasks.bags import combined, lots_of, once, sorted_by
from innerasks.errors import FreeColumns
from innerasks.lotplans import Group, Number, has_order
from innerasks.matching import Lots, Seen, rows_of_sides, seen_columns
from innerasks.pairplans import Depend, Except, Intersect, Join, Union
from innerasks.parameters import parameters_in, passed
from innerasks.plans import Compute, Distinct, Filter, Keep, Rows, Scan
from innerasks.scans import check_scans
from innerasks.values import aggregate, in_order
from innerasks.worths import worth


class World:
    """What does not change while a plan runs: the database and the parameters."""

    def __init__(self, base, params):
        self.base = base
        self.params = params


def run(database, plan, *, params=None):
    """The rows of the answer of a plan."""
    return rows_told(World(database, checked(database.schema, plan, params)), plan)


def checked(schema, plan, params):
    """The values of the parameters of a plan that can be run; the errors of run, but Several, for any other."""
    if len(plan.free) > 0:
        raise FreeColumns(plan.free)
    check_scans(schema, plan)
    return passed(parameters_of(plan), params)


def rows_told(world, plan):
    """The rows of the answer of a plan that is checked."""
    return in_its_order(plan, rows_of(world, plan, {}))


def in_its_order(plan, rows):
    """The rows of a plan in the order in which its answer tells them."""
    return rows if has_order(plan) else in_order(rows)


def parameters_of(plan):
    """The names of the parameters of a plan, by its nodes and their fields, each once."""
    return parameters_in(tuple([node.trees for _, node in plan.walk()]))


# Nodes. The rows of a plan come in any order, but for those of a First without by.

def rows_of(world, plan, known):
    """The rows of a plan; known has the values of the columns of the surroundings."""
    if isinstance(plan, Depend):
        return rows_depending(world, plan, known)
    return rows_over(world, plan, [rows_of(world, part, known) for part in plan.parts], known)


def rows_over(world, plan, sides, known):
    """The rows of a node that is no Depend, from the rows of its parts."""
    if isinstance(plan, Rows):
        return list(plan.rows)
    if isinstance(plan, Scan):
        return world.base[plan.table]
    if isinstance(plan, Join):
        return rows_joined(world, plan, sides, known)
    if isinstance(plan, Union):
        return combined("union", sides[0], sides[1])
    if isinstance(plan, (Except, Intersect)):
        return combined("except" if isinstance(plan, Except) else "intersect", sides[0], sides[1])
    rows = sides[0]
    if isinstance(plan, Distinct):
        return once(rows)
    if isinstance(plan, Keep):
        places = places_of(plan.plan, plan.columns)
        return [tuple([row[place] for place in places]) for row in rows]
    if isinstance(plan, (Filter, Compute)):
        return rows_looked_at(plan, seen_in(world, plan, known), rows)
    if isinstance(plan, Group):
        return rows_grouped(plan, seen_in(world, plan, known), rows)
    return rows_numbered(plan, rows) if isinstance(plan, Number) else rows_first(plan, rows)


def seen_in(world, plan, known):
    """What the expressions of a node see: the columns of its parts, and the surroundings."""
    columns = [column for part in plan.parts for column in part.columns]
    return Seen({column: place for place, column in enumerate(columns)}, known, world.params)


def places_of(plan, columns):
    """The places of columns in the rows of a plan."""
    places = {column: place for place, column in enumerate(plan.columns)}
    return [places[column] for column in columns]


def rows_looked_at(plan, seen, rows):
    """The rows of a Filter or a Compute."""
    if isinstance(plan, Filter):
        return [row for row in rows if worth(seen.at_row(row), plan.condition) is True]
    made = [tree for _, tree in plan.made]
    return [row + tuple([worth(seen.at_row(row), tree) for tree in made]) for row in rows]


def rows_grouped(plan, seen, rows):
    """The rows of a Group."""
    lots = lots_of(rows, places_of(plan.plan, plan.by))
    if len(plan.by) == 0 and len(rows) == 0:
        lots = {(): []}
    return [values + row_of_aggregates(plan, seen, lot) for values, lot in lots.items()]


def row_of_aggregates(plan, seen, lot):
    """What the aggregates of a Group are for a lot."""
    told = []
    for _, tree in plan.made:
        if tree[1] is None:
            told.append(len(lot))
            continue
        values = [worth(seen.at_row(row), tree[1]) for row in lot]
        told.append(aggregate(tree[0], values, distinct=tree[0] == "count" and tree[2]))
    return tuple(told)


def rows_numbered(plan, rows):
    """The rows of a Number."""
    lots = lots_of(in_order(rows), places_of(plan.plan, plan.by))
    return [row + (index,) for lot in lots.values() for index, row in enumerate(lot)]


def rows_first(plan, rows):
    """The rows of a First; without by they are in its order."""
    lots = lots_of(rows, places_of(plan.plan, plan.by))
    places = places_of(plan.plan, [column for column, _ in plan.order])
    order = [(place, is_down) for place, (_, is_down) in zip(places, plan.order)]
    return [row for lot in lots.values() for row in first_of(sorted_by(lot, order), plan.n)]


def first_of(rows, n):
    """The first n rows, all if n is None."""
    return rows if n is None else rows[:n]


# Joins.

def rows_joined(world, plan, sides, known):
    """The rows of a Join, from the rows of its parts."""
    left, right = sides
    lots = Lots(plan, right)
    pairs = [(row, right, lots.near(row)) for row in left]
    return rows_of_sides(plan, seen_in(world, plan, known), pairs, right)


def rows_depending(world, plan, known):
    """The rows of a Depend: its right part is run for each row of left."""
    left = rows_of(world, plan.left, known)
    columns = plan.left.columns
    places = places_of(plan.left, [column for column in plan.right.free if column in columns])
    answers = {}
    sides = []
    for row in left:
        # Where the columns that right uses have the same values, it has the same rows.
        values = tuple([row[place] for place in places])
        if values not in answers:
            here = seen_columns(columns, row)
            answers[values] = rows_of(world, plan.right, {**known, **here})
        right = answers[values]
        sides.append((row, right, list(range(len(right)))))
    return rows_of_sides(plan, seen_in(world, plan, known), sides, ())
