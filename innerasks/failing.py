"""What can be told from the form of a plan about its being Several."""

from innerasks.lotplans import First, Group, Number
from innerasks.pairplans import Join
from innerasks.plans import Compute, Distinct, Filter, Keep, Rows


def may_fail(plan):
    """Whether a single join in a plan may meet two rows, as far as its form tells."""
    return any([isinstance(node, Join) and node.kind == "single" and not has_one_row(node.right)
                for _, node in plan.walk()])


def has_one_row(plan):
    """Whether the form of a plan tells that it never has two rows."""
    below = plan
    while True:
        if isinstance(below, Group) and len(below.by) == 0:
            return True
        if isinstance(below, First) and len(below.by) == 0 and below.n in (0, 1):
            return True
        if isinstance(below, Rows):
            return len(below.rows) <= 1
        if not isinstance(below, (Filter, Compute, Keep, Distinct, Number, First, Group)):
            return False
        below = below.plan
