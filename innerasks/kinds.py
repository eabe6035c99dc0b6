"""Kinds and shapes of bound questions [26], the first fault of both is told [27]."""

from innerasks.errors import BadKind, BadShape
from innerasks.trees import AGGREGATES, LISTS, SUMS, is_pair
from innerasks.values import kind_of

WHOLE = "whole"
TEXT = "text"
TRUTH = "truth"
# What fits whole and text.
OPEN = "either"


# Questions.

def kinds_asked(schema, question, levels):
    """The kinds of the items of a question; levels are the kinds in the rows around it, the nearest first."""
    word = question[0]
    if word == "select":
        return kinds_selected(schema, question, levels)
    if word == "first":
        return kinds_asked(schema, question[1], levels)
    left = kinds_asked(schema, question[2], levels)
    right = kinds_asked(schema, question[3], levels)
    if len(left) != len(right):
        raise BadShape(word)
    kinds = [common(pair) for pair in zip(left, right)]
    if None in kinds:
        raise BadKind(word)
    return kinds


def kinds_selected(schema, question, levels):
    """The same for a select."""
    _, _, items, source, where, _, having = question
    row = []
    add_kinds(schema, source, levels, row)
    here = (row,) + levels
    if where is not None:
        check_truth(schema, here, where, "where")
    if having is not None:
        check_truth(schema, here, having, "having")
    kinds = []
    for e, _ in items:
        kind = kind_in(schema, here, e)
        if kind == TRUTH:
            raise BadKind("items")
        kinds.append(kind)
    return kinds


def settled(kinds):
    """The kinds of items where none may stay open."""
    return [WHOLE if kind == OPEN else kind for kind in kinds]


def add_kinds(schema, source, levels, row):
    """Adds the kinds of the columns of a source to those of the row of its select."""
    if source[0] == "table":
        row.extend([column.kind for column in schema[source[1]].columns])
        return
    if source[0] == "question":
        row.extend(settled(kinds_asked(schema, source[1], levels)))
        return
    _, _, one, other, condition = source
    add_kinds(schema, one, levels, row)
    add_kinds(schema, other, levels, row)
    if condition is not None:
        # The row is not whole yet, but the places of both parts are there.
        check_truth(schema, (row,) + levels, condition, "on")


# Expressions and conditions.

def common(kinds):
    """The kind that all these have, open ones left out; open if all are; None if they do not fit."""
    found = OPEN
    for kind in kinds:
        if kind == TRUTH or found != OPEN and kind not in (OPEN, found):
            return None
        if kind != OPEN:
            found = kind
    return found


def check_truth(schema, levels, tree, word):
    """The tree must be a truth, for what word says."""
    if kind_in(schema, levels, tree) != TRUTH:
        raise BadKind(word)


def kind_in(schema, levels, tree):
    """The kind of an expression or a condition: whole, text, truth or open."""
    word = tree[0]
    if is_pair(word):
        sides = (kind_in(schema, levels, tree[1]), kind_in(schema, levels, tree[2]))
        return kind_of_pair(word, common(sides))
    if word == "value":
        return OPEN if tree[1] is None else kind_of(tree[1])
    if word == "param":
        return OPEN
    if word == "at":
        return levels[tree[1]][tree[2]]
    if word == "not":
        check_truth(schema, levels, tree[1], word)
        return TRUTH
    if word == "null":
        if kind_in(schema, levels, tree[1]) == TRUTH:
            raise BadKind(word)
        return TRUTH
    if word in LISTS:
        return kind_of_list(word, [kind_in(schema, levels, part) for part in tree[1]])
    if word == "case":
        return kind_of_case(schema, levels, tree)
    if word in AGGREGATES:
        return kind_of_aggregate(schema, levels, tree)
    return kind_of_asking(schema, levels, tree)


def kind_of_pair(word, found):
    """The kind of a sum or a comparison of sides with this common kind."""
    if found is None or word in SUMS and found == TEXT:
        raise BadKind(word)
    return WHOLE if word in SUMS else TRUTH


def kind_of_list(word, kinds):
    """The kind of an and, or, coalesce of parts of these kinds."""
    if word == "coalesce":
        found = common(kinds)
        if found is None:
            raise BadKind(word)
        return found
    if not all([kind == TRUTH for kind in kinds]):
        raise BadKind(word)
    return TRUTH


def kind_of_case(schema, levels, tree):
    """The kind of a case."""
    kinds = []
    for condition, e in tree[1]:
        check_truth(schema, levels, condition, "when")
        kinds.append(kind_in(schema, levels, e))
    kinds.append(kind_in(schema, levels, tree[2]))
    found = common(kinds)
    if found is None:
        raise BadKind("case")
    return found


def kind_of_aggregate(schema, levels, tree):
    """The kind of an aggregate."""
    word = tree[0]
    if tree[1] is None:
        return WHOLE
    found = kind_in(schema, levels, tree[1])
    if found == TRUTH or word == "sum" and found == TEXT:
        raise BadKind(word)
    return found if word in ("least", "most") else WHOLE


def kind_of_asking(schema, levels, tree):
    """The kind of one, exists, in, any and all."""
    word = tree[0]
    has_side = word in ("in", "any", "all")
    kinds = [kind_in(schema, levels, tree[-2])] if has_side else []
    asked = kinds_asked(schema, tree[-1], levels)
    if word == "exists":
        return TRUTH
    if len(asked) != 1:
        raise BadShape(word)
    if word == "one":
        return asked[0]
    if common(kinds + asked) is None:
        raise BadKind(word)
    return TRUTH
