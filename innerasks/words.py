"""Names and keywords [2, 20]."""

KEYWORDS = (
    "all", "and", "any", "as", "by", "case", "coalesce", "count", "cross", "desc", "distinct", "else", "end",
    "except", "exists", "first", "from", "full", "group", "having", "in", "inner", "intersect", "is", "join",
    "least", "left", "most", "not", "null", "on", "one", "or", "order", "select", "sum", "then", "union",
    "when", "where",
)
MOST_LETTERS = 12


def is_name(thing):
    """Whether a value is a name: 1 to 12 letters from a to z, neither `self` nor a keyword."""
    if not isinstance(thing, str) or not 1 <= len(thing) <= MOST_LETTERS:
        return False
    # Not islower: it is true of letters beyond z, too.
    if not all(["a" <= letter <= "z" for letter in thing]):
        return False
    return thing != "self" and thing not in KEYWORDS
