"""Plans in which each number stands for one column only."""

from innerasks.lotplans import Group, Number
from innerasks.pairplans import Depend, Except, Intersect, Join, Union
from innerasks.plans import Compute, Rows, Scan
from innerasks.supply import Supply


def numbers_made(node):
    """The numbers of the columns that a node has and its parts do not have."""
    if isinstance(node, (Rows, Scan, Union, Except, Intersect)):
        return node.columns
    if isinstance(node, (Compute, Group)):
        return tuple([column for column, _ in node.made])
    if isinstance(node, Number) or isinstance(node, Join) and node.kind == "mark":
        return (node.column,)
    return ()


class Claims:
    """Which numbers stand for a column already, and a supply of those that stand nowhere in a plan."""

    def __init__(self, plan):
        made = [number for _, node in plan.walk() for number in numbers_made(node)]
        self.supply = Supply(made + list(plan.free))
        self.claimed = {number: True for number in plan.free}

    def claim(self, number):
        """The number itself for the first column that asks for it, otherwise a fresh one."""
        told = number
        if number in self.claimed:
            told = self.supply.fresh()
        self.claimed[told] = True
        return told


def cleaned(claims, plan, known):
    """The plan with a number of its own for each column; known has those of the columns that are known around it."""
    parts = []
    here = {}
    for part in plan.parts:
        # Only the right part of a Depend knows what stands beside it.
        around = {**known, **here} if isinstance(plan, Depend) else known
        made = cleaned(claims, part, around)
        parts.append(made)
        here.update({old: new for old, new in zip(part.columns, made.columns)})
    makes = {number: claims.claim(number) for number in numbers_made(plan)}
    return plan.remade(parts, {**known, **here}, makes)
