"""Whether a plan uses values as values and truths as truths [40]: a dict from its columns to "value" or "truth"."""

from innerasks.lotplans import Group, Number
from innerasks.pairplans import Depend, Except, Intersect, Join, Union
from innerasks.plans import Compute, Rows, Scan

CONDITIONS = ("=", "<>", "<", "<=", ">", ">=", "is", "null", "not", "and", "or", "truth")


class WrongKind(AssertionError):
    pass


def check_tree(tree, kinds):
    """Raises WrongKind where a value is used as a truth, or a truth as a value."""
    if isinstance(tree, tuple):
        if len(tree) == 2 and tree[0] in ("column", "truth") and isinstance(tree[1], int):
            if kinds[tree[1]] != ("value" if tree[0] == "column" else "truth"):
                raise WrongKind(tree)
            return
        for part in tree:
            check_tree(part, kinds)


def plan_kinds(plan, known):
    """The kinds of the columns of a plan; known has those of its free columns."""
    parts = []
    here = dict(known)
    for part in plan.parts:
        kinds = plan_kinds(part, here if isinstance(plan, Depend) else known)
        parts.append(kinds)
        here.update(kinds)
    for tree in plan.trees:
        check_tree(tree, here)
    if isinstance(plan, (Rows, Scan)):
        return {column: "value" for column in plan.columns}
    if isinstance(plan, (Union, Except, Intersect)):
        sides = [[kinds[column] for column in part.columns] for kinds, part in zip(parts, plan.parts)]
        if sides[0] != sides[1]:
            raise WrongKind(sides)
        return dict(zip(plan.columns, sides[0]))
    found = {column: here[column] for column in plan.columns if any(column in kinds for kinds in parts)}
    if isinstance(plan, Group):
        found.update({column: "value" for column, _ in plan.made})
    if isinstance(plan, Compute):
        found.update({column: "truth" if tree[0] in CONDITIONS else "value" for column, tree in plan.made})
    if isinstance(plan, Number):
        found[plan.column] = "value"
    if isinstance(plan, Join) and plan.kind == "mark":
        found[plan.column] = "truth"
    return found
