"""Dependent joins become plain ones: their right part is lifted, so that it has its rows for all choices at once."""

from innerasks.bound import bound_near, sunk
from innerasks.domains import domain_of, kept, linked, merged
from innerasks.failing import may_fail
from innerasks.forms import ALWAYS, joined, renumbered
from innerasks.loosening import loosened, loosened_condition
from innerasks.lotplans import First, Group, Number
from innerasks.pairplans import Depend, Except, Intersect, Join, Union
from innerasks.plans import Compute, Distinct, Filter, Keep


def flattened(supply, plan):
    """The plan without a Depend, with the same columns in the same order."""
    if isinstance(plan, Depend):
        return kept(independent(supply, plan, flattened(supply, plan.left)), plan.columns)
    parts = [flattened(supply, part) for part in plan.parts]
    return plan.remade(parts, {}, {}) if len(parts) > 0 else plan


def independent(supply, plan, left):
    """A Join with what a Depend has, over a left part without a Depend; it may have more columns."""
    kind = plan.kind
    used = [column for column in plan.right.free if column in left.columns]
    right, pulled = loosened(plan.right, used, kind in ("semi", "anti", "mark"))
    if not may_fail(right) and not any([column in used for column in right.free]):
        condition = loosened_condition(kind, plan.condition, pulled)
        return Join(kind, left, flattened(supply, right), condition, plan.column)
    lots = whole_below(plan.right)
    if kind in ("left", "single") and plan.condition == ALWAYS and lots is not None:
        return with_whole(supply, plan, left, lots)
    domain, numbers = domain_of(left, used, plan.right).copied(supply, used)
    lifted_right = lifted(supply, plan.right.renamed(numbers), domain)
    return Join(kind, left, lifted_right, linked(domain, numbers, plan.condition), plan.column)


def whole_below(plan):
    """The Group without by of which a plan has the row, with more columns perhaps, or fewer; None if there is none."""
    below = plan
    while isinstance(below, (Keep, Compute)):
        below = below.plan
    return below if isinstance(below, Group) and len(below.by) == 0 else None


def with_whole(supply, plan, left, lots):
    """What a Depend has, if right has the one row of a Group for each row of left."""
    used = [column for column in lots.free if column in left.columns]
    domain, numbers = domain_of(left, used, lots).copied(supply, used)
    made = counted_lots(supply, lots.renamed(numbers), domain, numbers, left)
    above = []
    below = plan.right
    while not isinstance(below, Group):
        above.append(below)
        below = below.plan
    for node in above[::-1]:
        if isinstance(node, Compute):
            made = Compute(made, node.made)
    return made


def is_apart(plan, domain):
    """Whether a plan has the same rows for each choice of a domain, and may run where there is none, too."""
    return not any([column in domain.held for column in plan.free]) and not may_fail(plan)


def lifted(supply, plan, domain):
    """The rows of a plan for each choice of a domain, with the columns of both; those of the plan in their order."""
    if is_apart(plan, domain):
        below = flattened(supply, plan)
        # Where more choices do no harm, there is no need to look whether there is one.
        if len(domain.held) == 0 and domain.is_loose:
            return below
        return Join("inner", domain.plan_of(), below, ALWAYS)
    if domain.is_loose:
        lower = sunk(plan)
        near = bound_near(lower, domain)
        if near is not None:
            return lifted_bound(supply, near, domain)
        return lifted_node(supply, lower, domain)
    return lifted_node(supply, plan, domain)


def lifted_bound(supply, near, domain):
    """The same for a plan with a condition that binds columns of the domain."""
    rest = [column for column in domain.held if column not in near.binds]
    below = lifted(supply, near.below, domain.narrowed(rest))
    return Filter(Compute(below, [(column, ("column", fellow)) for column, fellow in near.binds.items()]), near.where)


def lifted_node(supply, plan, domain):
    """The same for a plan that is no special case: its parts are lifted."""
    if isinstance(plan, Join):
        return lifted_join(supply, plan, domain)
    if isinstance(plan, (Union, Except, Intersect)):
        return lifted_pair(supply, plan, domain)
    if isinstance(plan, Group) and len(plan.by) == 0:
        return lifted_whole(supply, plan, domain)
    below = lifted(supply, plan.plan, domain)
    if isinstance(plan, Filter):
        return filtered(below, plan.condition)
    if isinstance(plan, Compute):
        return Compute(below, plan.made)
    if isinstance(plan, Keep):
        return kept(below, domain.held + plan.columns)
    if isinstance(plan, Distinct):
        return Distinct(below)
    # The columns of the domain are the same in each lot, and so do not change its order.
    if isinstance(plan, Number):
        return Number(below, plan.column, domain.held + plan.by)
    if isinstance(plan, Group):
        return Group(below, domain.held + plan.by, plan.made)
    return First(below, plan.order, plan.n, domain.held + plan.by)


def filtered(plan, condition):
    """A Filter, or where an inner join is below, this join with the condition, too."""
    if isinstance(plan, Join) and plan.kind == "inner":
        return Join("inner", plan.left, plan.right, joined(plan.condition, condition))
    return Filter(plan, condition)


def lifted_pair(supply, plan, domain):
    """A Union, Except or Intersect, lifted; its columns of the domain have the numbers that they have in its parts."""
    held = domain.held
    one = kept(lifted(supply, plan.one, domain), held + plan.one.columns)
    other = kept(lifted(supply, plan.other, domain), held + plan.other.columns)
    if isinstance(plan, Union):
        return Union(one, other, held + plan.columns)
    if isinstance(plan, Except):
        return Except(one, other, held + plan.columns)
    return Intersect(one, other, held + plan.columns)


def lifted_whole(supply, plan, domain):
    """A Group without by, lifted: it has a row also for a choice for which its part has none."""
    copied, numbers = domain.copied(supply, domain.held)
    made = counted_lots(supply, plan.renamed(numbers), copied, numbers, domain.plan_of())
    return kept(made, domain.held + plan.columns)


def counted_lots(supply, plan, domain, numbers, left):
    """Each row of left with the row of a Group without by for its choice: where there is no lot, the counts are 0."""
    below = lifted(supply, plan.plan, domain)
    made = []
    counts = []
    for column, tree in plan.made:
        told = column
        if tree[0] == "count":
            told = supply.fresh()
            counts.append((column, ("coalesce", (("column", told), ("value", 0)))))
        made.append((told, tree))
    join = Join("left", left, Group(below, domain.held, made), linked(domain, numbers))
    return Compute(join, counts) if len(counts) > 0 else join


# Joins.

def lifted_join(supply, plan, domain):
    """A Join or a Depend, lifted."""
    if isinstance(plan, Depend):
        return without(domain, plan, independent(supply, plan, lifted(supply, plan.left, domain)))
    if plan.kind == "full":
        return lifted_full(supply, plan, domain)
    if plan.kind == "inner" and is_apart(plan.left, domain) and not is_apart(plan.right, domain):
        left = flattened(supply, plan.left)
        return Join("inner", left, lifted(supply, plan.right, domain), plan.condition)
    left = lifted(supply, plan.left, domain)
    if is_apart(plan.right, domain):
        return Join(plan.kind, left, flattened(supply, plan.right), plan.condition, plan.column)
    copied, numbers = domain.copied(supply, [column for column in domain.held if column in plan.right.free])
    right = lifted(supply, plan.right.renamed(numbers), copied)
    return without(domain, plan, Join(plan.kind, left, right, linked(copied, numbers, plan.condition), plan.column))


def without(domain, plan, join):
    """A lifted join with the columns of a domain and of a plan alone."""
    wanted = domain.held + plan.columns
    return kept(join, [column for column in join.columns if column in wanted])


def lifted_full(supply, plan, domain):
    """A full join, lifted: a row that stands alone has the columns of the domain from its own side."""
    near, numbers = domain.copied(supply, domain.held)
    far, numbers_too = domain.copied(supply, domain.held)
    left = lifted(supply, plan.left.renamed(numbers), near)
    right = lifted(supply, plan.right.renamed(numbers_too), far)
    pairs = {numbers[column]: numbers_too[column] for column in domain.held}
    join = Join("full", left, right, linked(far, pairs, renumbered(plan.condition, numbers)))
    told = [merged(domain, column, numbers[column], numbers_too[column]) for column in domain.held]
    return kept(Compute(join, told) if len(told) > 0 else join, domain.held + plan.columns)
