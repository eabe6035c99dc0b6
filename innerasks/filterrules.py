"""Rules at Filters [53]: each tells what a node becomes, or None where it does not fit."""

from innerasks.forms import ALWAYS, columns_in, joined, renumbered
from innerasks.lotplans import Group
from innerasks.pairplans import Depend, Except, Intersect, Join, Union
from innerasks.plans import Compute, Distinct, Filter, Keep, Rows
from innerasks.spots import can_be


def uses(tree, columns):
    """Whether an expression or a condition uses one of these columns."""
    return any([column in columns for column in columns_in(tree)])


def uses_others(tree, columns, told):
    """Whether it uses one of the columns that is not among those told."""
    return uses(tree, [column for column in columns if column not in told])


def is_join(node, *kinds):
    """Whether a node is a join of one of these kinds, and no Depend."""
    return isinstance(node, Join) and not isinstance(node, Depend) and node.kind in kinds


def is_any_join(node, kind):
    """Whether a node is a join of this kind, perhaps a Depend."""
    return isinstance(node, Join) and node.kind == kind


def alike(join, kind, condition):
    """A join, or a Depend, with the parts of another one."""
    if isinstance(join, Depend):
        return Depend(kind, join.left, join.right, condition)
    return Join(kind, join.left, join.right, condition)


def filter_over(spot, *classes):
    """The Filter at a spot and its part, if this is of one of these classes; else None for both."""
    if not isinstance(spot.node, Filter):
        return None, None
    below = spot.node.plan
    return (spot.node.condition, below) if below.__class__.__name__ in classes else (None, None)


def split_and(spot):
    """Filter(P, ("and", (b, ..))) becomes Filter(Filter(P, c), b)."""
    node = spot.node
    if not isinstance(node, Filter) or node.condition[0] != "and" or len(node.condition[1]) < 2:
        return None
    first, *others = node.condition[1]
    return Filter(Filter(node.plan, joined(*others)), first)


def merge_filters(spot):
    """Filter(Filter(P, b), c) becomes Filter(P, b & c)."""
    condition, below = filter_over(spot, "Filter")
    return None if below is None else Filter(below.plan, joined(below.condition, condition))


def idle_filter(spot):
    """Filter(P, ("and", ())) becomes P."""
    node = spot.node
    return node.plan if isinstance(node, Filter) and node.condition == ALWAYS else None


def vain_filter(spot):
    """A Filter whose condition can never be True becomes a Rows without rows."""
    node = spot.node
    if not isinstance(node, Filter) or not spot.is_still((0,)):
        return None
    if can_be(True, node.condition, (), spot.never_in((0,))):
        return None
    return Rows(node.columns, ())


def past_compute(spot):
    """Filter(Compute(P, ..), b) becomes Compute(Filter(P, b), ..)."""
    condition, below = filter_over(spot, "Compute")
    if below is None or uses(condition, [column for column, _ in below.made]):
        return None
    return Compute(Filter(below.plan, condition), below.made)


def past_keep(spot):
    """Filter(Keep(P, k), b) becomes Keep(Filter(P, b), k)."""
    condition, below = filter_over(spot, "Keep")
    if below is None or uses_others(condition, below.plan.columns, below.columns):
        return None
    return Keep(Filter(below.plan, condition), below.columns)


def past_distinct(spot):
    """Filter(Distinct(P), b) becomes Distinct(Filter(P, b))."""
    condition, below = filter_over(spot, "Distinct")
    return None if below is None else Distinct(Filter(below.plan, condition))


def past_group(spot):
    """Filter(Group(P, by, ..), b) becomes Group(Filter(P, b), by, ..)."""
    condition, below = filter_over(spot, "Group")
    if below is None or len(below.by) == 0 or uses(condition, [column for column, _ in below.made]):
        return None
    if uses_others(condition, below.plan.columns, below.by):
        return None
    return Group(Filter(below.plan, condition), below.by, below.made)


def past_both(spot):
    """Filter(Union(A, B, k), b) becomes Union(Filter(A, b'), Filter(B, b''), k); so Except and Intersect."""
    condition, below = filter_over(spot, "Union", "Except", "Intersect")
    if below is None or uses(condition, below.one.columns + below.other.columns):
        return None
    one, other = [filtered_under(part, below.columns, condition) for part in below.parts]
    if isinstance(below, Union):
        return Union(one, other, below.columns)
    return Except(one, other, below.columns) if isinstance(below, Except) else Intersect(one, other, below.columns)


def filtered_under(part, columns, condition):
    """A Filter over a part with a condition that has the columns of the part for these."""
    numbers = {column: fellow for column, fellow in zip(columns, part.columns)}
    return Filter(part, renumbered(condition, numbers))


def into_join(spot):
    """Filter(inner, b) becomes the join with a & b."""
    condition, join = filter_over(spot, "Join", "Depend")
    if join is None or join.kind != "inner":
        return None
    return alike(join, "inner", joined(join.condition, condition))


def to_left(spot):
    """Filter(join, b) becomes the join of Filter(L, b) and R."""
    condition, join = filter_over(spot, "Join", "Depend")
    if join is None or join.kind == "full" or uses(condition, join.right.columns + (join.column,)):
        return None
    if join.kind == "single" and not spot.has_one_fellow((0,)):
        return None
    if isinstance(join, Depend) and not spot.is_still((0, 1)):
        return None
    return join.remade([Filter(join.left, condition), join.right], {}, {})


def to_right(spot):
    """Filter(inner, b) becomes the inner join of L and Filter(R, b)."""
    condition, join = filter_over(spot, "Join")
    if join is None or join.kind != "inner" or uses(condition, join.left.columns):
        return None
    return Join("inner", join.left, Filter(join.right, condition), join.condition)


def left_inner(spot):
    """Filter(left, b) becomes Filter(inner, b)."""
    condition, join = filter_over(spot, "Join", "Depend")
    if join is None or join.kind != "left" or can_be(True, condition, join.right.columns, {}):
        return None
    return Filter(alike(join, "inner", join.condition), condition)


def full_left(spot):
    """Filter(full, b) becomes Filter(left, b)."""
    condition, join = filter_over(spot, "Join")
    if join is None or join.kind != "full" or can_be(True, condition, join.left.columns, {}):
        return None
    return Filter(alike(join, "left", join.condition), condition)


def full_right(spot):
    """Filter(full, b) becomes Filter(Keep(left of R and L, k), b)."""
    condition, join = filter_over(spot, "Join")
    if join is None or join.kind != "full" or can_be(True, condition, join.right.columns, {}):
        return None
    return Filter(Keep(Join("left", join.right, join.left, join.condition), join.columns), condition)


AT_FILTERS = {
    "split": split_and,
    "merge": merge_filters,
    "idle": idle_filter,
    "vain": vain_filter,
    "past compute": past_compute,
    "past keep": past_keep,
    "past distinct": past_distinct,
    "past group": past_group,
    "past both": past_both,
    "into join": into_join,
    "to left": to_left,
    "to right": to_right,
    "left inner": left_inner,
    "full left": full_left,
    "full right": full_right,
}


def made_at_filter(name, spot):
    """What a node becomes by a rule at a Filter with this name; None where it does not fit."""
    action = AT_FILTERS[name]
    return action(spot)
