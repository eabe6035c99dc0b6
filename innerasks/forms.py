"""The forms of the expressions and conditions of plans [40], and the columns in them."""

from innerasks.trees import COMPARISONS, SUMS, parts_of, rebuilt
from innerasks.values import is_value, is_whole
from innerasks.words import is_name

MOST_NUMBER = 9999
# The condition that is always True.
ALWAYS = ("and", ())
# The condition that never is.
NEVER = ("or", ())


# Numbers of columns.

def is_number(thing):
    """Whether it is a number of a column."""
    return is_whole(thing) and 1 <= thing <= MOST_NUMBER


def is_listed(thing):
    """Whether it is a list or a tuple."""
    return isinstance(thing, (list, tuple))


def are_numbers(thing):
    """Whether it is a list of different numbers of columns."""
    return is_listed(thing) and all([is_number(part) for part in thing]) and len(set(thing)) == len(thing)


def moved(columns, numbers):
    """The columns under other numbers; those that are not told stay."""
    return tuple([numbers.get(column, column) for column in columns])


# Forms.

def is_expression(tree):
    """Whether it has a form of an expression."""
    return has_form(tree, False)


def is_condition(tree):
    """Whether it has a form of a condition."""
    return has_form(tree, True)


def is_aggregate(tree):
    """Whether it has a form of an aggregate."""
    if not isinstance(tree, tuple) or len(tree) < 2:
        return False
    word, e = tree[:2]
    if word != "count":
        return word in ("sum", "least", "most") and len(tree) == 2 and is_expression(e)
    if len(tree) != 3 or not isinstance(tree[2], bool):
        return False
    return not tree[2] if e is None else is_expression(e)


def has_form(tree, is_truth):
    """Whether a tree has a form: of a condition if it is a truth, otherwise of an expression."""
    waiting = [(tree, is_truth)]
    while len(waiting) > 0:
        part, must_be_truth = waiting.pop()
        if not isinstance(part, tuple) or len(part) < 2:
            return False
        asked = asked_of_condition(part) if must_be_truth else asked_of_expression(part)
        if asked is None:
            return False
        waiting.extend(asked)
    return True


def asked_of_expression(tree):
    """The parts of an expression, each with whether it must be a condition; None if it has no form."""
    word = tree[0]
    if word in SUMS:
        return asked_of_pair(tree)
    if word == "coalesce":
        return asked_of_list(tree, 1, False)
    if word == "case":
        return asked_of_case(tree)
    if len(tree) != 2:
        return None
    thing = tree[1]
    fits = word == "value" and is_value(thing) or word == "param" and is_name(thing)
    return [] if fits or word == "column" and is_number(thing) else None


def asked_of_condition(tree):
    """The same for a condition."""
    word = tree[0]
    if word in COMPARISONS or word == "is":
        return asked_of_pair(tree)
    if word in ("and", "or"):
        return asked_of_list(tree, 0, True)
    if len(tree) != 2:
        return None
    if word == "not":
        return [(tree[1], True)]
    if word == "null":
        return [(tree[1], False)]
    return [] if word == "truth" and is_number(tree[1]) else None


def asked_of_pair(tree):
    """The same for a sum or a comparison."""
    return [(part, False) for part in tree[1:]] if len(tree) == 3 else None


def asked_of_list(tree, least, must_be_truth):
    """The same for an and, or, coalesce, with so many parts at least."""
    if len(tree) != 2 or not isinstance(tree[1], tuple) or len(tree[1]) < least:
        return None
    return [(part, must_be_truth) for part in tree[1]]


def asked_of_case(tree):
    """The same for a case."""
    if len(tree) != 3 or not isinstance(tree[1], tuple) or len(tree[1]) == 0:
        return None
    asked = [(tree[2], False)]
    for choice in tree[1]:
        if not isinstance(choice, tuple) or len(choice) != 2:
            return None
        asked.extend([(choice[0], True), (choice[1], False)])
    return asked


# Columns in trees that have a form.

def columns_in(tree):
    """The columns, and the columns of truths, in an expression or a condition, each once."""
    found = {}
    waiting = [tree]
    while len(waiting) > 0:
        part = waiting.pop()
        if part[0] in ("column", "truth"):
            found[part[1]] = True
        waiting.extend(parts_of(part))
    return list(found)


def renumbered(tree, numbers):
    """An expression or a condition with other numbers for its columns."""
    if tree[0] in ("column", "truth"):
        return (tree[0], numbers.get(tree[1], tree[1]))
    return rebuilt(tree, [renumbered(part, numbers) for part in parts_of(tree)])


def renumbered_aggregate(tree, numbers):
    """An aggregate with other numbers for its columns."""
    if tree[1] is None:
        return tree
    return (tree[0], renumbered(tree[1], numbers)) + tree[2:]


# Parts of conditions.

def conjuncts(condition):
    """The parts of a condition that is an and, otherwise the condition alone."""
    return condition[1] if condition[0] == "and" else (condition,)


def joined(*conditions):
    """The and of the parts of conditions; one part alone stands without and [52]."""
    told = tuple([part for condition in conditions for part in conjuncts(condition)])
    return told[0] if len(told) == 1 else ("and", told)


def divided(condition, columns):
    """The parts of a condition that use none of these columns, and those that do."""
    stays = []
    leaves = []
    for part in conjuncts(condition):
        if any([column in columns for column in columns_in(part)]):
            leaves.append(part)
        else:
            stays.append(part)
    return stays, leaves
