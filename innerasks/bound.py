"""Columns of a domain that conditions bind to columns of a plan: their values can be taken from there."""

from innerasks.forms import conjuncts, divided, joined
from innerasks.pairplans import Depend, Join
from innerasks.plans import Filter


class Near:
    """A plan and a condition over it, which binds columns of a domain: a dict from these to columns of the plan."""

    def __init__(self, below, where, binds):
        self.below = below
        self.where = where
        self.binds = binds


def bound_near(plan, domain):
    """A plan with a condition that binds columns of the domain, as a Near; None if it has no such."""
    if isinstance(plan, Filter):
        near = Near(plan.plan, plan.condition, {})
    elif isinstance(plan, Join) and plan.kind == "inner" and not isinstance(plan, Depend):
        near = parted_join(plan, domain)
    else:
        return None
    for part in conjuncts(near.where):
        if part[0] in ("=", "is") and part[1][0] == "column" and part[2][0] == "column":
            for column, fellow in ((part[1][1], part[2][1]), (part[2][1], part[1][1])):
                if column in domain.held and column not in near.below.free and fellow in near.below.columns:
                    near.binds[column] = fellow
    return near if len(near.binds) > 0 else None


def parted_join(plan, domain):
    """An inner join whose condition stands above it, as far as it uses columns of the domain."""
    stays, leaves = divided(plan.condition, domain.held)
    return Near(Join("inner", plan.left, plan.right, joined(*stays)), joined(*leaves), {})


def sunk(plan):
    """A Filter over a join, whose condition stands in the left part of this join as far as it can; or the plan itself.

    So right is run for fewer rows: only for plans that are never Several.
    """
    if not isinstance(plan, Filter) or not isinstance(plan.plan, Join) or plan.plan.kind == "full":
        return plan
    join = plan.plan
    others = [column for column in join.right.columns + (join.column,) if column not in join.left.columns]
    sinks, stays = divided(plan.condition, others)
    if len(sinks) == 0:
        return plan
    below = join.remade([Filter(join.left, joined(*sinks)), join.right], {}, {})
    return Filter(below, joined(*stays)) if len(stays) > 0 else below
