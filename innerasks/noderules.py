"""Rules at all other nodes [53]: each tells what a node becomes, or None where it does not fit."""

from innerasks.filterrules import uses
from innerasks.lotplans import First, Group, Number
from innerasks.plans import Compute, Distinct, Keep


def once_distinct(spot):
    """Distinct(P) becomes P."""
    node = spot.node
    return node.plan if isinstance(node, Distinct) and spot.has_key((0,)) else None


def one_keep(spot):
    """Keep(Keep(P, ..), k) becomes Keep(P, k)."""
    node = spot.node
    if not isinstance(node, Keep) or not isinstance(node.plan, Keep):
        return None
    return Keep(node.plan.plan, node.columns)


def no_keep(spot):
    """Keep(P, k) becomes P."""
    node = spot.node
    return node.plan if isinstance(node, Keep) and node.columns == node.plan.columns else None


def less_made(spot):
    """Keep(Compute(P, ..), k), and of Group, loses the items that are not in k."""
    node = spot.node
    if not isinstance(node, Keep) or not isinstance(node.plan, (Compute, Group)):
        return None
    below = node.plan
    made = [item for item in below.made if item[0] in node.columns]
    if isinstance(below, Group) and len(below.by) == 0 and len(made) == 0:
        made = list(below.made[:1])
    if len(made) == len(below.made):
        return None
    if isinstance(below, Group):
        return Keep(Group(below.plan, below.by, made), node.columns)
    return Keep(Compute(below.plan, made) if len(made) > 0 else below.plan, node.columns)


def no_number(spot):
    """Keep(Number(P, ..), k) becomes Keep(P, k)."""
    node = spot.node
    if not isinstance(node, Keep) or not isinstance(node.plan, Number) or node.plan.column in node.columns:
        return None
    return Keep(node.plan.plan, node.columns)


def one_compute(spot):
    """Compute(Compute(P, ..), ..) becomes Compute(P, .., ..)."""
    node = spot.node
    if not isinstance(node, Compute) or not isinstance(node.plan, Compute):
        return None
    inner = [column for column, _ in node.plan.made]
    if any([uses(tree, inner) for _, tree in node.made]):
        return None
    return Compute(node.plan.plan, node.plan.made + node.made)


def no_order(spot):
    """First(P, keys, None, by) becomes P."""
    node = spot.node
    if not isinstance(node, First) or node.n is not None:
        return None
    return node.plan if len(spot.path) > 0 or len(node.by) > 0 else None


def lots_alone(spot):
    """Group(P, by) becomes Distinct(Keep(P, by))."""
    node = spot.node
    if not isinstance(node, Group) or len(node.by) == 0 or len(node.made) > 0:
        return None
    return Distinct(Keep(node.plan, node.by))


AT_OTHERS = {
    "once": once_distinct,
    "one keep": one_keep,
    "no keep": no_keep,
    "less": less_made,
    "no number": no_number,
    "one compute": one_compute,
    "no order": no_order,
    "lots": lots_alone,
}


def made_at_other(name, spot):
    """What a node becomes by a rule at any other node with this name; None where it does not fit."""
    action = AT_OTHERS[name]
    return action(spot)
