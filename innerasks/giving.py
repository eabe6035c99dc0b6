"""What a condition gives where it is True [51]."""

from innerasks.forms import columns_in
from innerasks.known import linked_to
from innerasks.possible import Clues, truths_possible


def given(condition, columns, never):
    """The columns that are never null, and the links, where a condition over columns is True.

    Never is a dict of the columns that are never null anyway.
    """
    solid = solid_columns(condition, columns, never)
    links = []
    for part in parts_within(condition):
        if part[0] in ("=", "is"):
            for side, other in ((part[1], part[2]), (part[2], part[1])):
                if side[0] == "column" and side[1] in columns:
                    links.extend(linked_to(columns_among(other, columns), [side[1]]))
        truth = part[1] if part[0] == "not" else part
        if truth[0] == "truth" and truth[1] in columns:
            solid.append(truth[1])
            links.extend(linked_to((), [truth[1]]))
    return solid, links


def solid_columns(condition, columns, never):
    """The columns of which a condition cannot be True if they are null."""
    if True not in truths_possible(Clues((), never), condition):
        return list(columns)
    used = columns_among(condition, columns)
    return [column for column in used if True not in truths_possible(Clues((column,), never), condition)]


def columns_among(tree, columns):
    """Those of the columns that are in an expression or a condition."""
    return [column for column in columns_in(tree) if column in columns]


def parts_within(condition):
    """The condition itself, or the parts of an and; of parts that are an and their parts in turn."""
    found = []
    waiting = [condition]
    while len(waiting) > 0:
        part = waiting.pop()
        if part[0] == "and":
            waiting.extend(part[1][::-1])
        else:
            found.append(part)
    return found
