"""Dependent joins whose right part depends on left by conditions alone: these can stand in the join."""

from innerasks.domains import surely
from innerasks.forms import divided, joined
from innerasks.pairplans import Depend, Join
from innerasks.plans import Compute, Distinct, Filter, Keep


def loosened(plan, columns, is_once):
    """The plan, with more columns perhaps, without conditions that use these columns, and a list of these conditions.

    If is_once, it does not matter how often it has a row.
    """
    if isinstance(plan, Keep) or is_once and isinstance(plan, Distinct):
        return loosened(plan.plan, columns, is_once)
    if isinstance(plan, Filter):
        below, pulled = loosened(plan.plan, columns, is_once)
        stays, leaves = divided(plan.condition, columns)
        return (Filter(below, joined(*stays)) if len(stays) > 0 else below, pulled + leaves)
    if isinstance(plan, Compute):
        below, pulled = loosened(plan.plan, columns, is_once)
        return Compute(below, plan.made), pulled
    if isinstance(plan, Join) and plan.kind == "inner" and not isinstance(plan, Depend):
        left, pulled = loosened(plan.left, columns, is_once)
        right, pulled_too = loosened(plan.right, columns, is_once)
        stays, leaves = divided(plan.condition, columns)
        return Join("inner", left, right, joined(*stays)), pulled + pulled_too + leaves
    if isinstance(plan, Join) and plan.kind != "full":
        left, pulled = loosened(plan.left, columns, is_once)
        return plan.remade([left, plan.right], {}, {}), pulled
    return plan, []


def loosened_condition(kind, condition, pulled):
    """The condition of a join with conditions that stood in its right part."""
    if kind == "mark":
        # A row for which one of these is unknown is not there; it must not make the mark unknown.
        told = [condition] + [surely(part) for part in pulled]
    else:
        told = [condition] + pulled
    return joined(*told)
