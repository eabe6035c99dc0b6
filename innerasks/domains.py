"""Domains: the values of the columns that a dependent part uses, each choice of them once."""

from innerasks.failing import may_fail
from innerasks.forms import joined
from innerasks.lotplans import First, Group, Number
from innerasks.pairplans import Join, Union
from innerasks.plans import Compute, Distinct, Filter, Keep, Rows
from innerasks.trees import parts_of


class Domain:
    """Columns of a plan; truths are those among them that hold truths.

    If it is loose, more choices do no harm: whatever is made for them meets nothing, and nothing can be Several.
    """

    def __init__(self, source, held, truths, is_loose):
        self.source = source
        self.held = held
        self.truths = truths
        self.is_loose = is_loose

    def plan_of(self):
        """The plan that has each choice of values once."""
        return Distinct(kept(self.source_of(self.held), self.held))

    def source_of(self, columns):
        """A small plan that has the values of some of its columns."""
        small = stripped(self.source, columns, self.is_loose)
        if not self.is_loose or any([column in self.truths for column in columns]):
            return small
        return with_nulls(small, columns)

    def narrowed(self, columns):
        """The domain of some of its columns."""
        return Domain(self.source, tuple(columns), self.truths, self.is_loose)

    def copied(self, supply, columns):
        """The domain of some of its columns under fresh numbers, and a dict from these columns to them."""
        numbers = {column: supply.fresh() for column in columns}
        held = tuple([numbers[column] for column in columns])
        truths = [numbers[column] for column in columns if column in self.truths]
        return Domain(self.source_of(columns).renamed(numbers), held, truths, self.is_loose), numbers


def kept(plan, columns):
    """The plan with these columns alone, in this order."""
    told = tuple(columns)
    return plan if plan.columns == told else Keep(plan, told)


def domain_of(plan, columns, user):
    """The domain of columns of a plan that another plan uses."""
    return Domain(plan, tuple(columns), truths_used(user, columns), not may_fail(user))


def stripped(plan, columns, is_loose):
    """A smaller plan that has the same values in these columns, but not each as often; if it is loose, more perhaps."""
    below = plan
    while True:
        smaller = [part for part in smaller_parts(below, is_loose) if has_all(part, columns)]
        if len(smaller) == 0:
            return below
        below = smaller[0]


def smaller_parts(plan, is_loose):
    """The parts of a plan in which the columns that they have hold the same values, or more if it is loose."""
    if isinstance(plan, (Keep, Distinct, Compute, Number)) or isinstance(plan, Group) and len(plan.by) > 0:
        return [plan.plan]
    if isinstance(plan, (Filter, First)):
        return [plan.plan] if is_loose else []
    if not isinstance(plan, Join):
        return []
    if plan.kind == "inner":
        return [plan.left, plan.right] if is_loose else []
    is_whole_left = plan.kind in ("mark", "single", "left")
    return [plan.left] if is_whole_left or is_loose and plan.kind != "full" else []


def with_nulls(plan, columns):
    """A smaller plan that has the values of columns of one side of an outer join, and nulls; or the plan itself."""
    if not isinstance(plan, Join) or plan.kind not in ("left", "single", "full"):
        return plan
    for part in plan.parts:
        if has_all(part, columns):
            small = kept(with_nulls(stripped(part, columns, True), columns), columns)
            return Union(small, Rows(columns, [(None,) * len(columns)]), columns)
    return plan


def has_all(plan, columns):
    """Whether a plan has all of these columns."""
    return all([column in plan.columns for column in columns])


def truths_used(plan, columns):
    """Those of the columns that are used as truths in a plan."""
    used = {}
    waiting = [tree for _, node in plan.walk() for tree in node.trees]
    while len(waiting) > 0:
        tree = waiting.pop()
        if tree[0] == "truth":
            used[tree[1]] = True
        waiting.extend(parts_of(tree))
    return [column for column in columns if column in used]


# Conditions that compare two copies of a domain.

def linked(copied, numbers, *conditions):
    """The and of conditions, and of a comparison of each column with its copy; numbers is a dict to these."""
    told = list(conditions)
    for column, other in numbers.items():
        if other in copied.truths:
            told.append(("is", told_of_truth(column), told_of_truth(other)))
        else:
            told.append(("is", ("column", column), ("column", other)))
    return joined(*told)


def told_of_truth(column):
    """A value for a truth: 1 for True, 0 for False, null for unknown."""
    truth = ("truth", column)
    return ("case", ((truth, ("value", 1)), (("not", truth), ("value", 0))), ("value", None))


def merged(domain, column, one, other):
    """The item for a column of a domain of which there are two copies: where they differ, one of them is null."""
    if column not in domain.truths:
        return (column, ("coalesce", (("column", one), ("column", other))))
    return (column, ("=", ("coalesce", (told_of_truth(one), told_of_truth(other))), ("value", 1)))


def surely(condition):
    """A condition that is True where this one is, and False elsewhere."""
    if is_known(condition):
        return condition
    told = ("case", ((condition, ("value", 1)),), ("value", 0))
    return ("is", told, ("value", 1))


def is_known(condition):
    """Whether a condition is never unknown, by its form alone."""
    if condition[0] in ("and", "or", "not"):
        return all([is_known(part) for part in parts_of(condition)])
    return condition[0] in ("is", "null")
