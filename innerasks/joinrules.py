"""Rules at joins, and at nodes right above them [53]: each tells what a node becomes, or None."""

from innerasks.filterrules import alike, is_any_join, is_join
from innerasks.forms import ALWAYS, divided, joined
from innerasks.pairplans import Depend, Join
from innerasks.plans import Distinct, Filter, Keep, are_in
from innerasks.spots import can_be


def out_of_join(spot):
    """An inner join with a becomes Filter(inner with (), a)."""
    node = spot.node
    if not is_any_join(node, "inner") or node.condition == ALWAYS:
        return None
    return Filter(alike(node, "inner", ALWAYS), node.condition)


def turn_join(spot):
    """An inner join of L and R becomes Keep(inner of R and L, k)."""
    node = spot.node
    if not is_join(node, "inner"):
        return None
    return Keep(Join("inner", node.right, node.left, node.condition), node.columns)


def deep_right(spot):
    """inner(inner(A, B, b), C, a) becomes inner(A, inner(B, C, c), b & d)."""
    node = spot.node
    if not is_join(node, "inner") or not is_join(node.left, "inner"):
        return None
    near = node.left
    stays, leaves = divided(node.condition, near.left.columns)
    inner = Join("inner", near.right, node.right, joined(*stays))
    return Join("inner", near.left, inner, joined(near.condition, joined(*leaves)))


def deep_left(spot):
    """inner(A, inner(B, C, b), a) becomes inner(inner(A, B, c), C, b & d)."""
    node = spot.node
    if not is_join(node, "inner") or not is_join(node.right, "inner"):
        return None
    near = node.right
    stays, leaves = divided(node.condition, near.right.columns)
    inner = Join("inner", node.left, near.left, joined(*stays))
    return Join("inner", inner, near.right, joined(near.condition, joined(*leaves)))


def semi_inner(spot):
    """A semi join becomes Keep(inner, L's columns)."""
    node = spot.node
    if not is_join(node, "semi") or not spot.has_one_fellow(()):
        return None
    return Keep(alike(node, "inner", node.condition), node.columns)


def inner_semi(spot):
    """Keep(inner, k) becomes Keep(semi, k)."""
    join = join_kept(spot.node, "inner")
    if join is None or not spot.has_one_fellow((0,)):
        return None
    return Keep(alike(join, "semi", join.condition), spot.node.columns)


def distinct_semi(spot):
    """Distinct(Keep(inner, k)) becomes Distinct(Keep(semi, k))."""
    if not isinstance(spot.node, Distinct):
        return None
    join = join_kept(spot.node.plan, "inner")
    return None if join is None else Distinct(Keep(alike(join, "semi", join.condition), spot.node.columns))


def join_kept(node, *kinds):
    """The join, no Depend, of which a Keep has columns of left alone; None if there is none."""
    if isinstance(node, Keep) and is_join(node.plan, *kinds) and are_in(node.columns, node.plan.left.columns):
        return node.plan
    return None


def join_gone(spot):
    """Keep(left or single, k) becomes Keep(L, k)."""
    join = join_kept(spot.node, "left", "single")
    if join is None or not spot.is_still((0, 1)) or not spot.has_one_fellow((0,)):
        return None
    return Keep(join.left, spot.node.columns)


def single_left(spot):
    """A single join becomes a left one."""
    node = spot.node
    if not is_join(node, "single") or not spot.has_one_fellow(()):
        return None
    return alike(node, "left", node.condition)


def join_filtered(node, kind):
    """The condition and the join of Keep(Filter(join, condition), k), if k are of L; else None for both."""
    if not isinstance(node, Keep) or not isinstance(node.plan, Filter) or not is_any_join(node.plan.plan, kind):
        return None, None
    join = node.plan.plan
    return (node.plan.condition, join) if are_in(node.columns, join.left.columns) else (None, None)


def null_anti(spot):
    """Keep(Filter(left, ("null", ("column", c))), k) becomes Keep(anti, k)."""
    condition, join = join_filtered(spot.node, "left")
    if join is None or isinstance(join, Depend) or condition[0] != "null" or condition[1][0] != "column":
        return None
    column = condition[1][1]
    if column not in join.right.columns or column not in spot.never_in((0, 0, 1)):
        return None
    return Keep(alike(join, "anti", join.condition), spot.node.columns)


def mark_semi(spot):
    """Keep(Filter(mark, ("truth", its column)), k) becomes Keep(semi, k)."""
    condition, join = join_filtered(spot.node, "mark")
    if join is None or condition != ("truth", join.column):
        return None
    return Keep(alike(join, "semi", join.condition), spot.node.columns)


def mark_anti(spot):
    """Keep(Filter(mark, ("not", ("truth", its column))), k) becomes Keep(anti, k)."""
    condition, join = join_filtered(spot.node, "mark")
    if join is None or isinstance(join, Depend) or condition != ("not", ("truth", join.column)):
        return None
    if can_be(None, join.condition, (), spot.never_in((0, 0, 0), (0, 0, 1))):
        return None
    return Keep(alike(join, "anti", join.condition), spot.node.columns)


def free_join(spot):
    """A Depend becomes the Join with the same."""
    node = spot.node
    if not isinstance(node, Depend) or not spot.is_still((1,)):
        return None
    if any([column in node.left.columns for column in node.right.free]):
        return None
    return Join(node.kind, node.left, node.right, node.condition, node.column)


AT_JOINS = {
    "out of join": out_of_join,
    "turn": turn_join,
    "deep right": deep_right,
    "deep left": deep_left,
    "semi inner": semi_inner,
    "inner semi": inner_semi,
    "distinct semi": distinct_semi,
    "join gone": join_gone,
    "single left": single_left,
    "null anti": null_anti,
    "mark semi": mark_semi,
    "mark anti": mark_anti,
    "free": free_join,
}


def made_at_join(name, spot):
    """What a node becomes by a rule at a join, or right above one, with this name; None where it does not fit."""
    action = AT_JOINS[name]
    return action(spot)
