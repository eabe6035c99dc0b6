"""Questions are read from texts: the grammar [21] and the trees that come of it [22]."""

from innerasks.errors import NoQuestion
from innerasks.scanner import INTEGER, NAME, PARAMETER, STRING, Cursor
from innerasks.trees import COMPARISONS


def read_question(text):
    """The question that a text is; NoQuestion with the place where it stops being one."""
    if not isinstance(text, str):
        raise NoQuestion(0)
    cursor = Cursor(text)
    question = read_whole(cursor)
    cursor.finish()
    return question


# Questions.

def read_whole(cursor):
    """A question."""
    return read_behind(cursor, read_simple(cursor))


def read_behind(cursor, simple):
    """The question that begins with a simple one, which is read already."""
    body = read_intersects(cursor, simple)
    while cursor.sees("union", "except"):
        word = cursor.step()
        is_all = cursor.passes("all")
        body = (word, is_all, body, read_intersects(cursor, read_simple(cursor)))
    if not cursor.passes("order"):
        return body
    cursor.expect("by")
    keys = [read_key(cursor)]
    while cursor.passes(","):
        keys.append(read_key(cursor))
    n = cursor.take(INTEGER) if cursor.passes("first") else None
    return ("first", body, tuple(keys), n)


def read_intersects(cursor, simple):
    """The part of a body that begins with a simple question, which is read already."""
    part = simple
    while cursor.passes("intersect"):
        is_all = cursor.passes("all")
        part = ("intersect", is_all, part, read_simple(cursor))
    return part


def read_key(cursor):
    """A key behind order by."""
    name = cursor.take(NAME)
    return (name, cursor.passes("desc"))


def read_simple(cursor):
    """A select, or a question in parentheses."""
    if cursor.passes("select"):
        return read_select(cursor)
    return read_enclosed(cursor)


def read_enclosed(cursor):
    """A question in parentheses."""
    cursor.expect("(")
    question = read_whole(cursor)
    cursor.expect(")")
    return question


def read_select(cursor):
    """What stands behind the word select."""
    is_distinct = cursor.passes("distinct")
    items = read_items(cursor)
    cursor.expect("from")
    sources = read_sources(cursor)
    where = read_e(cursor) if cursor.passes("where") else None
    groups = read_groups(cursor)
    having = read_e(cursor) if cursor.passes("having") else None
    return ("select", is_distinct, items, sources, where, groups, having)


def read_items(cursor):
    """The items of a select; None for all columns."""
    if cursor.passes("*"):
        return None
    items = [read_item(cursor)]
    while cursor.passes(","):
        items.append(read_item(cursor))
    return tuple(items)


def read_item(cursor):
    """An item with its name."""
    e = read_e(cursor)
    # A column alone has a name of its own.
    if e[0] == "column" and not cursor.sees("as"):
        return (e, e[2])
    cursor.expect("as")
    return (e, cursor.take(NAME))


def read_groups(cursor):
    """The columns behind group by; None without it."""
    if not cursor.passes("group"):
        return None
    cursor.expect("by")
    if cursor.passes("("):
        cursor.expect(")")
        return ()
    groups = [read_column(cursor)]
    while cursor.passes(","):
        groups.append(read_column(cursor))
    return tuple(groups)


# Sources.

def read_sources(cursor):
    """The sources of a select, those parted by commas, too."""
    source = read_joins(cursor, read_single(cursor))
    while cursor.passes(","):
        source = ("join", "cross", source, read_joins(cursor, read_single(cursor)), None)
    return source


def read_joins(cursor, single):
    """The source that begins with a single one, which is read already."""
    source = single
    while cursor.sees("join", "inner", "left", "full", "cross"):
        kind = read_join_kind(cursor)
        other = read_single(cursor)
        condition = None
        if kind != "cross":
            cursor.expect("on")
            condition = read_e(cursor)
        source = ("join", kind, source, other, condition)
    return source


def read_join_kind(cursor):
    """The words of a join: its kind."""
    if cursor.passes("join"):
        return "inner"
    kind = cursor.step()
    cursor.expect("join")
    return kind


def read_single(cursor):
    """A source without joins, or one in parentheses."""
    if cursor.sees("("):
        is_question, tree = read_opened(cursor)
        return read_aliased(cursor, tree) if is_question else tree
    name = cursor.take(NAME)
    alias = cursor.take(NAME) if cursor.passes("as") else name
    return ("table", name, alias)


def read_aliased(cursor, question):
    """The source that a question in parentheses is, which is read already, with its alias."""
    cursor.expect("as")
    return ("question", question, cursor.take(NAME))


def read_opened(cursor):
    """A question or a source in parentheses, whatever it turns out to be: (whether it is a question, tree)."""
    cursor.expect("(")
    if cursor.sees("select"):
        found = (True, read_whole(cursor))
    elif cursor.sees("("):
        found = read_behind_opened(cursor)
    else:
        found = (False, read_joins(cursor, read_single(cursor)))
    cursor.expect(")")
    return found


def read_behind_opened(cursor):
    """A question or a source that begins with one of both in parentheses."""
    is_question, tree = read_opened(cursor)
    # A question in parentheses is a source only with an alias; without one a question goes on.
    if is_question and not cursor.sees("as"):
        return (True, read_behind(cursor, tree))
    single = read_aliased(cursor, tree) if is_question else tree
    return (False, read_joins(cursor, single))


# Conditions.

def read_e(cursor):
    """An expression or a condition."""
    parts = [read_both(cursor)]
    while cursor.passes("or"):
        parts.append(read_both(cursor))
    return ("or", tuple(parts)) if len(parts) > 1 else parts[0]


def read_both(cursor):
    """What stands between two `or`."""
    parts = [read_no(cursor)]
    while cursor.passes("and"):
        parts.append(read_no(cursor))
    return ("and", tuple(parts)) if len(parts) > 1 else parts[0]


def read_no(cursor):
    """What stands between two `and`."""
    many = 0
    while cursor.passes("not"):
        many += 1
    tree = read_test(cursor)
    for _ in range(many):
        tree = ("not", tree)
    return tree


def read_test(cursor):
    """A condition without `not`, `and`, `or`, or a sum."""
    if cursor.passes("exists"):
        return ("exists", read_enclosed(cursor))
    left = read_sum(cursor)
    if cursor.sees(*COMPARISONS):
        return read_comparison(cursor, left)
    if cursor.passes("is"):
        return read_is(cursor, left)
    if cursor.passes("not"):
        cursor.expect("in")
        return ("not", ("in", left, read_enclosed(cursor)))
    if cursor.passes("in"):
        return ("in", left, read_enclosed(cursor))
    return left


def read_comparison(cursor, left):
    """What stands behind the left side of a comparison."""
    sign = cursor.step()
    if cursor.sees("any", "all"):
        word = cursor.step()
        return (word, sign, left, read_enclosed(cursor))
    return (sign, left, read_sum(cursor))


def read_is(cursor, left):
    """What stands behind `is`."""
    is_not = cursor.passes("not")
    # The word null ends the test, even if a sum could go on with it.
    tree = ("null", left) if cursor.passes("null") else ("is", left, read_sum(cursor))
    return ("not", tree) if is_not else tree


# Expressions.

def read_sum(cursor):
    """Products with `+` and `-` between them."""
    tree = read_product(cursor)
    while cursor.sees("+", "-"):
        sign = cursor.step()
        tree = (sign, tree, read_product(cursor))
    return tree


def read_product(cursor):
    """Factors with `*` between them."""
    tree = read_factor(cursor)
    while cursor.passes("*"):
        tree = ("*", tree, read_factor(cursor))
    return tree


def read_factor(cursor):
    """A factor with all the `-` ahead of it."""
    many = 0
    while cursor.passes("-"):
        many += 1
    if many > 0 and cursor.holds(INTEGER):
        # The last `-` belongs to the integer.
        tree = ("value", -cursor.take(INTEGER))
        many -= 1
    else:
        tree = read_bare_factor(cursor)
    for _ in range(many):
        tree = ("-", ("value", 0), tree)
    return tree


def read_bare_factor(cursor):
    """A factor that does not begin with `-`."""
    if cursor.holds(INTEGER):
        return ("value", cursor.take(INTEGER))
    if cursor.holds(STRING):
        return ("value", cursor.take(STRING))
    if cursor.holds(PARAMETER):
        return ("param", cursor.take(PARAMETER))
    if cursor.passes("null"):
        return ("value", None)
    if cursor.passes("one"):
        return ("one", read_enclosed(cursor))
    if cursor.passes("case"):
        return read_case(cursor)
    if cursor.passes("coalesce"):
        return read_coalesce(cursor)
    if cursor.passes("count"):
        return read_count(cursor)
    if cursor.sees("sum", "least", "most"):
        word = cursor.step()
        return (word, read_parenthesized(cursor))
    return read_parenthesized(cursor) if cursor.sees("(") else read_column(cursor)


def read_parenthesized(cursor):
    """An expression in parentheses."""
    cursor.expect("(")
    tree = read_e(cursor)
    cursor.expect(")")
    return tree


def read_column(cursor):
    """A column, with its alias or without."""
    name = cursor.take(NAME)
    if cursor.passes("."):
        return ("column", name, cursor.take(NAME))
    return ("column", None, name)


def read_case(cursor):
    """What stands behind the word case."""
    choices = []
    cursor.expect("when")
    choices.append(read_choice(cursor))
    while cursor.passes("when"):
        choices.append(read_choice(cursor))
    otherwise = read_e(cursor) if cursor.passes("else") else ("value", None)
    cursor.expect("end")
    return ("case", tuple(choices), otherwise)


def read_choice(cursor):
    """What stands behind the word when: a condition and its value."""
    condition = read_e(cursor)
    cursor.expect("then")
    return (condition, read_e(cursor))


def read_coalesce(cursor):
    """What stands behind the word coalesce."""
    cursor.expect("(")
    parts = [read_e(cursor)]
    while cursor.passes(","):
        parts.append(read_e(cursor))
    cursor.expect(")")
    return ("coalesce", tuple(parts))


def read_count(cursor):
    """What stands behind the word count."""
    cursor.expect("(")
    if cursor.passes("*"):
        cursor.expect(")")
        return ("count", None, False)
    is_distinct = cursor.passes("distinct")
    tree = read_e(cursor)
    cursor.expect(")")
    return ("count", tree, is_distinct)
