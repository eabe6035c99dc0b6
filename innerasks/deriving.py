"""What is known of plans: one node after the other, parts first [51]."""

from innerasks.forms import is_condition
from innerasks.giving import columns_among, given
from innerasks.joinfacts import known_of_join, limited
from innerasks.known import Known, cut, linked_to, remarked, renumbered_known
from innerasks.lotplans import Group, Number
from innerasks.pairplans import Except, Intersect, Join
from innerasks.plans import Compute, Distinct, Filter, Keep, Rows, Scan
from innerasks.possible import SOLID, Clues, truths_possible, worths_possible


class Marks:
    """Numbers for imaginary columns: each unlike all others."""

    def __init__(self):
        self.last = 0

    def fresh(self):
        """A number that no other column has."""
        self.last -= 1
        return self.last


def derived(schema, plan, marks):
    """What is known of a plan."""
    return derived_over(schema, plan, [derived(schema, part, marks) for part in plan.parts], marks)


def derived_over(schema, plan, parts, marks):
    """What is known of a plan, from what is known of its parts."""
    if isinstance(plan, Rows):
        known = known_of_rows(plan, marks)
    elif isinstance(plan, Scan):
        known = known_of_scan(schema[plan.table], plan, marks)
    elif isinstance(plan, Join):
        known = known_of_join(plan, parts[0], parts[1])
    elif len(parts) == 2:
        known = known_of_pair(plan, parts[0], parts[1], marks)
    else:
        known = known_over(plan, parts[0], marks)
    return limited(known)


def known_of_rows(plan, marks):
    """What is known of a Rows."""
    mark = marks.fresh()
    links = linked_to([mark], plan.columns)
    if len(set(plan.rows)) == len(plan.rows):
        links.extend(linked_to(plan.columns, [mark]))
    never = {mark: True}
    for place, column in enumerate(plan.columns):
        told = [row[place] for row in plan.rows]
        if len(set(told)) <= 1:
            links.extend(linked_to((), [column]))
        if None not in told:
            never[column] = True
    return Known((mark,), never, links, len(plan.rows), True)


def known_of_scan(table, plan, marks):
    """What is known of a Scan."""
    mark = marks.fresh()
    links = linked_to([mark], plan.columns)
    for key in table.unique:
        told = tuple([plan.columns[table.place_of(name)] for name in key])
        links.append((told, told, mark))
    never = {column: True for column, part in zip(plan.columns, table.columns) if part.required}
    never[mark] = True
    return Known((mark,), never, links, None, True)


def known_over(plan, below, marks):
    """What is known of a node with one part."""
    if isinstance(plan, Filter):
        solid, links = given(plan.condition, plan.columns, below.never)
        return more_known(below, links, solid)
    if isinstance(plan, Compute):
        return known_of_compute(plan, below)
    if isinstance(plan, Keep):
        return leaving_out(below, plan.plan.columns, plan.columns, marks)
    if isinstance(plan, Distinct):
        mark = marks.fresh()
        links = linked_to(plan.columns, [mark]) + linked_to([mark], plan.columns)
        return remarked(cut(below, plan.columns), mark, links)
    if isinstance(plan, Number):
        links = linked_to(below.marks, [plan.column]) + linked_to(plan.by + (plan.column,), below.marks)
        return more_known(below, links, [plan.column])
    return known_of_group(plan, below, marks) if isinstance(plan, Group) else known_of_first(plan, below)


def more_known(known, links, never):
    """The same with more links, and more columns that are never null."""
    told = {**known.never}
    for column in never:
        told[column] = True
    return Known(known.marks, told, known.links + links, known.limit, known.quiet)


def leaving_out(known, columns, stays, marks):
    """The same where of these columns only some stay: the others are imaginary."""
    return renumbered_known(known, {column: marks.fresh() for column in columns if column not in stays})


def known_of_compute(plan, below):
    """What is known of a Compute."""
    columns = plan.plan.columns
    clues = Clues((), below.never)
    links = []
    solid = []
    for column, tree in plan.made:
        links.extend(linked_to(columns_among(tree, columns), [column]))
        if tree[0] == "column" and tree[1] in columns:
            links.extend(linked_to([column], [tree[1]]))
        if is_condition(tree):
            if None not in truths_possible(clues, tree):
                solid.append(column)
        elif worths_possible(clues, tree) == SOLID:
            solid.append(column)
    return more_known(below, links, solid)


def known_of_group(plan, below, marks):
    """What is known of a Group."""
    clues = Clues((), below.never)
    solid = []
    for column, tree in plan.made:
        is_end = tree[0] in ("least", "most") and len(plan.by) > 0
        if tree[0] == "count" or is_end and worths_possible(clues, tree[1]) == SOLID:
            solid.append(column)
    mark = marks.fresh()
    links = linked_to(plan.by, [mark]) + linked_to([mark], plan.columns)
    known = remarked(leaving_out(cut(below, plan.by), plan.plan.columns, plan.by, marks), mark, links, solid)
    limit = 1 if len(plan.by) == 0 else known.limit
    return Known(known.marks, known.never, known.links, limit, known.quiet)


def known_of_first(plan, below):
    """What is known of a First."""
    links = linked_to(plan.by, below.marks) if plan.n in (0, 1) else []
    limit = lesser(plan.n, below.limit) if len(plan.by) == 0 else below.limit
    return Known(below.marks, below.never, below.links + links, limit, below.quiet)


def lesser(one, other):
    """The less one of two limits."""
    if one is None or other is None:
        return other if one is None else one
    return min(one, other)


def known_of_pair(plan, one, other, marks):
    """What is known of a Union, Except or Intersect."""
    quiet = one.quiet and other.quiet
    left = under(one, plan.one.columns, plan.columns)
    if isinstance(plan, Except):
        return Known(left.marks, left.never, left.links, left.limit, quiet)
    right = under(other, plan.other.columns, plan.columns)
    mark = marks.fresh()
    if isinstance(plan, Intersect):
        both = Known((), {**left.never, **right.never}, left.links + right.links, lesser(one.limit, other.limit), quiet)
        links = linked_to(left.marks, [mark]) + linked_to(right.marks, [mark])
        return remarked(both, mark, links + linked_to([mark], left.marks + right.marks))
    never = {column: True for column in plan.columns if column in left.never and column in right.never}
    never[mark] = True
    limit = None if one.limit is None or other.limit is None else one.limit + other.limit
    return Known((mark,), never, linked_to([mark], plan.columns), limit, quiet)


def under(known, columns, numbers):
    """The same with the columns under new numbers."""
    return renumbered_known(known, {column: number for column, number in zip(columns, numbers)})
