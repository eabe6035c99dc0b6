"""What is known of joins, from what is known of their parts [51]."""

from innerasks.giving import given
from innerasks.known import Known, filled, linked_to, reached
from innerasks.possible import Clues, truths_possible


def depending(plan, known):
    """What is known of the right part of a join: of a Depend, for all rows of left together."""
    foreign = foreign_columns(plan)
    links = [(needs, froms + foreign, column) for needs, froms, column in known.links]
    return Known(known.marks, known.never, links, known.limit, known.quiet)


def foreign_columns(plan):
    """The columns of left that are free in right: only a Depend can have such."""
    return tuple([column for column in plan.right.free if column in plan.left.columns])


def inner_known(plan, left, right):
    """What is known of the inner join with the same parts and condition."""
    columns = plan.left.columns + plan.right.columns
    never = {**left.never, **right.never}
    solid, links = given(plan.condition, columns, never)
    for column in solid:
        never[column] = True
    limit = multiplied(left.limit, right.limit)
    return limited(Known(left.marks + right.marks, never, left.links + right.links + links, limit, True))


def multiplied(one, other):
    """The product of two limits."""
    return None if one is None or other is None else one * other


def limited(known):
    """The same with what comes of there being one row at most."""
    if known.limit not in (0, 1):
        return known
    links = known.links + linked_to((), known.marks)
    return Known(known.marks, known.never, links, known.limit, known.quiet)


def has_one_match(plan, left, right):
    """Whether the match of a join is single."""
    found = reached(inner_known(plan, left, right), left.marks)
    return all([mark in found for mark in right.marks])


def known_of_join(plan, left, was_right):
    """What is known of a join; was_right is what is known of right by itself."""
    right = depending(plan, was_right)
    quiet = left.quiet and right.quiet
    kind = plan.kind
    if kind == "inner":
        inner = inner_known(plan, left, right)
        return Known(inner.marks, inner.never, inner.links, inner.limit, quiet)
    if kind in ("semi", "anti", "mark"):
        never, links = known_of_left(plan, left, right)
        return Known(left.marks, never, left.links + links, left.limit, quiet)
    if kind == "full":
        links = filled(left, ()).links + filled(right, ()).links
        return Known(left.marks + right.marks, {}, links, None, quiet)
    return known_of_outer(plan, left, right)


def known_of_left(plan, left, right):
    """The columns that are never null in a semi, anti or mark join, and what links it has besides those of left."""
    never = {**left.never}
    if plan.kind == "anti":
        return never, []
    around = {**left.never, **right.never}
    if plan.kind == "mark":
        if None not in truths_possible(Clues((), around), plan.condition):
            never[plan.column] = True
        return never, linked_to(left.marks, [plan.column])
    solid, links = given(plan.condition, plan.left.columns + plan.right.columns, around)
    for column in solid:
        if column in plan.left.columns:
            never[column] = True
    return never, [link for link in links if is_of(link, plan.left.columns)]


def is_of(link, columns):
    """Whether a link without needs is among columns alone."""
    _, froms, column = link
    return column in columns and all([part in columns for part in froms])


def known_of_outer(plan, left, right):
    """What is known of a left or a single join."""
    is_single = plan.kind == "single"
    links = left.links + filled(right, foreign_columns(plan)).links
    found = reached(inner_known(plan, left, right), left.marks)
    followers = [mark for mark in right.marks if is_single or mark in found]
    limit = left.limit
    if not is_single and (right.limit is None or right.limit > 1):
        limit = multiplied(left.limit, right.limit)
    quiet = left.quiet and right.quiet and (not is_single or has_one_match(plan, left, right))
    return Known(left.marks + right.marks, left.never, links + linked_to(left.marks, followers), limit, quiet)
