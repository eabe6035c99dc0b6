"""What expressions and conditions are worth [31, 32], wherever they stand."""

from innerasks.trees import SUMS, is_pair
from innerasks.values import both, compare, either, negated, reckon


def worth(sight, tree):
    """The value of an expression, or the truth of a condition; the sight tells what stands only in its place."""
    word = tree[0]
    if word == "value":
        return tree[1]
    if is_pair(word):
        one = worth(sight, tree[1])
        other = worth(sight, tree[2])
        return reckon(word, one, other) if word in SUMS else compare(word, one, other)
    if word in ("and", "or"):
        truths = [worth(sight, part) for part in tree[1]]
        return both(*truths) if word == "and" else either(*truths)
    if word == "not":
        return negated(worth(sight, tree[1]))
    if word == "null":
        return worth(sight, tree[1]) is None
    if word == "coalesce":
        return first_known([worth(sight, part) for part in tree[1]])
    if word == "case":
        return worth_of_case(sight, tree)
    return sight.told(tree)


def first_known(values):
    """The first value that is not null, or null."""
    for value in values:
        if value is not None:
            return value
    return None


def worth_of_case(sight, tree):
    """The value of a case: all its parts are looked at, whichever is taken."""
    choices = [(worth(sight, condition), worth(sight, e)) for condition, e in tree[1]]
    otherwise = worth(sight, tree[2])
    for truth, value in choices:
        # A truth may be unknown.
        if truth is True:
            return value
    return otherwise
