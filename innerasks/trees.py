"""What the trees of questions have in common [31 to 35]."""

SUMS = ("+", "-", "*")
COMPARISONS = ("=", "<>", "<", "<=", ">", ">=")
AGGREGATES = ("count", "sum", "least", "most")
LISTS = ("and", "or", "coalesce")


def is_pair(word):
    """Whether the tree of this word is (word, one side, other side)."""
    return word in SUMS or word in COMPARISONS or word == "is"


def parts_of(tree):
    """The expressions and conditions directly in one, without those in questions and in aggregates."""
    word = tree[0]
    if is_pair(word):
        return [tree[1], tree[2]]
    if word in LISTS:
        return list(tree[1])
    if word == "case":
        return [part for choice in tree[1] for part in choice] + [tree[2]]
    if word in ("any", "all"):
        return [tree[2]]
    return [tree[1]] if word in ("not", "null", "in") else []


def has_aggregate(tree):
    """Whether an aggregate stands in an expression or a condition, those in questions left out."""
    waiting = [tree]
    while len(waiting) > 0:
        part = waiting.pop()
        if part[0] in AGGREGATES:
            return True
        waiting.extend(parts_of(part))
    return False
