"""Questions are written as texts: the written form [23]."""

from innerasks.trees import COMPARISONS, LISTS, is_pair

# How strongly the parts of a text hold together: what is weaker than its place asks for needs parentheses.
LOOSE = 0
BOTH = 1
NO = 2
SUM = 3
PRODUCT = 4
FACTOR = 5

# The same for questions, and for sources.
ORDERED = 0
UNITED = 1
INTERSECTED = 2
SIMPLE = 3

JOIN_WORDS = {"inner": "join", "left": "left join", "full": "full join", "cross": "cross join"}


def write_question(question):
    """The text of a question, in the written form."""
    word = question[0]
    if word == "select":
        return select_text(question)
    if word == "first":
        return first_text(question)
    _, is_all, one, other = question
    strength = question_strength(question)
    sign = f"{word} all" if is_all else word
    return f"{part_text(one, strength)} {sign} {part_text(other, strength + 1)}"


# Questions.

def question_strength(question):
    """How strongly the text of a question holds together."""
    word = question[0]
    if word in ("union", "except"):
        return UNITED
    if word == "intersect":
        return INTERSECTED
    return ORDERED if word == "first" else SIMPLE


def part_text(question, least):
    """The text of a question where one is asked for that holds together so strongly."""
    text = write_question(question)
    return text if question_strength(question) >= least else f"({text})"


def first_text(question):
    """The text of a question with an order."""
    _, inner, keys, n = question
    told = ", ".join([f"{name} desc" if is_down else name for name, is_down in keys])
    text = f"{part_text(inner, UNITED)} order by {told}"
    return text if n is None else f"{text} first {n}"


def select_text(question):
    """The text of a select."""
    _, is_distinct, items, sources, where, groups, having = question
    words = ["select distinct"] if is_distinct else ["select"]
    words.append("*" if items is None else ", ".join([item_text(e, name) for e, name in items]))
    words.append(f"from {source_text(sources)}")
    if where is not None:
        words.append(f"where {tree_text(where, LOOSE)}")
    if groups is not None:
        words.append(f"group by {groups_text(groups)}")
    if having is not None:
        words.append(f"having {tree_text(having, LOOSE)}")
    return " ".join(words)


def item_text(e, name):
    """The text of an item."""
    text = tree_text(e, LOOSE)
    return text if e[0] == "column" and e[2] == name else f"{text} as {name}"


def groups_text(groups):
    """What stands behind group by."""
    return ", ".join([column_text(column) for column in groups]) if len(groups) > 0 else "()"


# Sources.

def source_text(source):
    """The text of a source; only that of a join needs parentheses, on the right side of another join."""
    word = source[0]
    if word == "table":
        _, name, alias = source
        return name if alias == name else f"{name} as {alias}"
    if word == "question":
        return f"({write_question(source[1])}) as {source[2]}"
    _, kind, one, other, condition = source
    right = source_text(other)
    if other[0] == "join":
        right = f"({right})"
    text = f"{source_text(one)} {JOIN_WORDS[kind]} {right}"
    return text if condition is None else f"{text} on {tree_text(condition, LOOSE)}"


# Expressions and conditions.

def strength_of(tree):
    """How strongly the text of an expression or a condition holds together."""
    word = tree[0]
    if word == "or":
        return LOOSE
    if word == "and":
        return BOTH
    if word in COMPARISONS or word in ("not", "is", "null", "in", "any", "all", "exists"):
        return NO
    if word in ("+", "-"):
        return SUM
    return PRODUCT if word == "*" else FACTOR


def sides_of(word):
    """How strongly the left and the right side of a sum or a comparison must hold together."""
    if word in ("+", "-"):
        return (SUM, PRODUCT)
    return (PRODUCT, FACTOR) if word == "*" else (SUM, SUM)


def tree_text(tree, least):
    """The text of an expression or a condition where one is asked for that holds together so strongly."""
    word = tree[0]
    if is_pair(word):
        on_left, on_right = sides_of(word)
        left = tree_text(tree[1], on_left)
        right = behind_is(tree[2]) if word == "is" else tree_text(tree[2], on_right)
        text = f"{left} {word} {right}"
    elif word == "not":
        text = not_text(tree[1])
    else:
        text = condition_text(tree)
    return text if strength_of(tree) >= least else f"({text})"


def behind_is(tree):
    """The text of what stands behind `is`, where the word null would end the test."""
    text = tree_text(tree, SUM)
    return f"({text})" if text == "null" or text.startswith("null ") else text


def not_text(tree):
    """The text of the `not` of a condition."""
    if tree[0] == "in":
        return f"{tree_text(tree[1], SUM)} not in ({write_question(tree[2])})"
    if tree[0] == "null":
        return f"{tree_text(tree[1], SUM)} is not null"
    if tree[0] == "is":
        return f"{tree_text(tree[1], SUM)} is not {behind_is(tree[2])}"
    return f"not {tree_text(tree, NO)}"


def condition_text(tree):
    """The text of `and`, `or` and of the tests that are no comparisons; else of an expression."""
    word = tree[0]
    if word == "and" or word == "or":
        return f" {word} ".join([tree_text(part, strength_of(tree) + 1) for part in tree[1]])
    if word == "null":
        return f"{tree_text(tree[1], SUM)} is null"
    if word == "in":
        return f"{tree_text(tree[1], SUM)} in ({write_question(tree[2])})"
    if word == "any" or word == "all":
        return f"{tree_text(tree[2], SUM)} {tree[1]} {word} ({write_question(tree[3])})"
    if word == "exists" or word == "one":
        return f"{word} ({write_question(tree[1])})"
    return expression_text(tree)


def expression_text(tree):
    """The text of an expression that is no sum and no question."""
    word = tree[0]
    if word == "value":
        return value_text(tree[1])
    if word == "param":
        return f":{tree[1]}"
    if word == "column":
        return column_text(tree)
    if word == "case":
        return case_text(tree)
    if word in LISTS:
        told = ", ".join([tree_text(part, LOOSE) for part in tree[1]])
        return f"{word}({told})"
    return aggregate_text(tree)


def value_text(value):
    """The text of a value."""
    if value is None:
        return "null"
    if isinstance(value, str):
        doubled = value.replace("'", "''")
        return f"'{doubled}'"
    return str(value)


def column_text(column):
    """The text of a column."""
    _, alias, name = column
    return name if alias is None else f"{alias}.{name}"


def case_text(tree):
    """The text of a case."""
    _, choices, otherwise = tree
    words = ["case"]
    for condition, e in choices:
        words.append(f"when {tree_text(condition, LOOSE)} then {tree_text(e, LOOSE)}")
    if otherwise != ("value", None):
        words.append(f"else {tree_text(otherwise, LOOSE)}")
    words.append("end")
    return " ".join(words)


def aggregate_text(tree):
    """The text of an aggregate."""
    word = tree[0]
    if tree[1] is None:
        return f"{word}(*)"
    told = tree_text(tree[1], LOOSE)
    return f"{word}(distinct {told})" if word == "count" and tree[2] else f"{word}({told})"
