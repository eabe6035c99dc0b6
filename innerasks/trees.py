"""What the trees of questions have in common [31 to 35]."""

SUMS = ("+", "-", "*")
COMPARISONS = ("=", "<>", "<", "<=", ">", ">=")
AGGREGATES = ("count", "sum", "least", "most")
LISTS = ("and", "or", "coalesce")
# Their question stands at the end; in, any and all have a side ahead of it.
ASKING = ("one", "exists", "in", "any", "all")
SIDED = ("in", "any", "all")


def is_pair(word):
    """Whether the tree of this word is (word, one side, other side)."""
    return word in SUMS or word in COMPARISONS or word == "is"


def parts_of(tree):
    """The expressions and conditions directly in one, without those in questions and in aggregates."""
    word = tree[0]
    if is_pair(word):
        return [tree[1], tree[2]]
    if word in LISTS:
        return list(tree[1])
    if word == "case":
        return [part for choice in tree[1] for part in choice] + [tree[2]]
    if word in ("any", "all"):
        return [tree[2]]
    return [tree[1]] if word in ("not", "null", "in") else []


def rebuilt(tree, parts):
    """The expression or condition with other parts, in the order of parts_of."""
    word = tree[0]
    if is_pair(word):
        return (word, parts[0], parts[1])
    if word in LISTS:
        return (word, tuple(parts))
    if word == "case":
        choices = [(parts[index], parts[index + 1]) for index in range(0, len(parts) - 1, 2)]
        return (word, tuple(choices), parts[-1])
    if word in ("any", "all"):
        return (word, tree[1], parts[0], tree[3])
    if word == "in":
        return (word, parts[0], tree[2])
    return (word, parts[0]) if word in ("not", "null") else tree


def has_aggregate(tree):
    """Whether an aggregate stands in an expression or a condition, those in questions left out."""
    waiting = [tree]
    while len(waiting) > 0:
        part = waiting.pop()
        if part[0] in AGGREGATES:
            return True
        waiting.extend(parts_of(part))
    return False


def has_question(tree):
    """Whether a question stands in an expression or a condition, those in aggregates left out."""
    waiting = [tree]
    while len(waiting) > 0:
        part = waiting.pop()
        if part[0] in ASKING:
            return True
        waiting.extend(parts_of(part))
    return False


def set_aside(tree, found):
    """The tree with ("told", index) for each of its aggregates, which are added to those found."""
    if tree[0] not in AGGREGATES:
        return rebuilt(tree, [set_aside(part, found) for part in parts_of(tree)])
    found.append(tree)
    return ("told", len(found) - 1)
