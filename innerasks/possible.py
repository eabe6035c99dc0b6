"""What expressions and conditions can be, from what is known of columns [52]."""

from innerasks.trees import COMPARISONS, SUMS
from innerasks.values import both, either, negated

# Whether an expression can be null, and whether it can be another value.
NULL = (True, False)
SOLID = (False, True)
EITHER = (True, True)

UNKNOWN_ALONE = (None,)
KNOWN_TRUTHS = (True, False)
ALL_TRUTHS = (True, False, None)
# Of ("null", e), by what e can be.
TRUTHS_OF_NULL = {(True, False): (True,), (False, True): (False,), (True, True): (True, False)}


class Clues:
    """What is known of columns: those that are null, and a dict of those that never are."""

    def __init__(self, nulls, never):
        self.nulls = nulls
        self.never = never

    def of_column(self, column):
        """What a column can be."""
        if column in self.nulls:
            return NULL
        return SOLID if column in self.never else EITHER


def worths_possible(clues, tree):
    """What an expression can be: NULL, SOLID or EITHER."""
    word = tree[0]
    if word == "value":
        return NULL if tree[1] is None else SOLID
    if word == "column":
        return clues.of_column(tree[1])
    if word == "param":
        return EITHER
    if word in SUMS:
        sides = [worths_possible(clues, part) for part in tree[1:]]
        # Beside a null there is null; a side may be a text otherwise.
        return NULL if NULL in sides else EITHER
    if word == "case":
        return worths_of_case(clues, tree)
    parts = [worths_possible(clues, part) for part in tree[1]]
    if SOLID in parts:
        return SOLID
    return EITHER if EITHER in parts else NULL


def worths_of_case(clues, tree):
    """What a case can be: what its branches can be together that can be taken."""
    taken = []
    for condition, e in tree[1]:
        truths = truths_possible(clues, condition)
        if True in truths:
            taken.append(worths_possible(clues, e))
        if truths == (True,):
            return together(taken)
    return together(taken + [worths_possible(clues, tree[2])])


def together(worths):
    """What something can be that is one of these."""
    return (any([can_be_null for can_be_null, _ in worths]), any([can_be_solid for _, can_be_solid in worths]))


def truths_possible(clues, tree):
    """The truths that a condition can have, in the order of ALL_TRUTHS."""
    word = tree[0]
    if word == "truth":
        return ALL_TRUTHS
    if word == "not":
        return in_their_order([negated(truth) for truth in truths_possible(clues, tree[1])])
    if word in ("and", "or"):
        return truths_of_list(clues, tree)
    if word == "null":
        return TRUTHS_OF_NULL[worths_possible(clues, tree[1])]
    sides = [worths_possible(clues, part) for part in tree[1:]]
    if word in COMPARISONS:
        if NULL in sides:
            return UNKNOWN_ALONE
        return ALL_TRUTHS if EITHER in sides else KNOWN_TRUTHS
    if sides[0] == sides[1] == NULL:
        return (True,)
    return (False,) if NULL in sides and SOLID in sides else KNOWN_TRUTHS


def truths_of_list(clues, tree):
    """The truths that an and, or an or, can have: what comes of all choices of the truths of its parts."""
    told = [tree[0] == "and"]
    for part in tree[1]:
        truths = truths_possible(clues, part)
        if tree[0] == "and":
            told = in_their_order([both(one, other) for one in told for other in truths])
        else:
            told = in_their_order([either(one, other) for one in told for other in truths])
    return tuple(told)


def in_their_order(truths):
    """Each of the truths once, in the order of ALL_TRUTHS."""
    return tuple([truth for truth in ALL_TRUTHS if truth in truths])
