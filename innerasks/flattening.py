"""Flat plans [46]."""

from innerasks.cleaning import Claims, cleaned
from innerasks.lifting import flattened
from innerasks.pairplans import Depend


def is_flat(plan):
    """Whether no node of a plan is a Depend."""
    return not any([isinstance(node, Depend) for _, node in plan.walk()])


def flat(plan):
    """A flat plan with the same columns, the same free columns or fewer, and the same answer."""
    if is_flat(plan):
        return plan
    claims = Claims(plan)
    clean = cleaned(claims, plan, {})
    made = flattened(claims.supply, clean)
    # The columns of the plan get their numbers back; whatever is hidden and has one of these takes the other.
    numbers = {}
    for old, new in zip(plan.columns, clean.columns):
        numbers[new] = old
        numbers[old] = new
    return made.renamed(numbers)
