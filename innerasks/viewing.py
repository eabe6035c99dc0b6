"""Questions over tables and views, as the reader makes them [65]."""

from innerasks.binding import bind
from innerasks.errors import BadParameter
from innerasks.parameters import parameters_in


def is_table_source(tree):
    """Whether a part of a question is a source ("table", name, alias): nothing else in it looks so."""
    return isinstance(tree, tuple) and len(tree) == 3 and tree[0] == "table"


def uses_table(question, name):
    """Whether a table, or a view, with this name is a source anywhere in a question."""
    waiting = [question]
    while len(waiting) > 0:
        part = waiting.pop()
        if is_table_source(part):
            if part[1] == name:
                return True
        elif isinstance(part, tuple):
            waiting.extend(part)
    return False


def unfolded(tree, whole):
    """A part of a question with the questions of views in their place; whole is a dict from the names of views."""
    if not isinstance(tree, tuple):
        return tree
    if is_table_source(tree):
        _, name, alias = tree
        return ("question", whole[name], alias) if name in whole else tree
    return tuple([unfolded(part, whole) for part in tree])


def bound_over(schema, question, whole):
    """The bound question without views, and its columns."""
    return bind(schema, unfolded(question, whole))


def check_view(schema, question, whole):
    """A question must be one that a view may have."""
    bound, _ = bound_over(schema, question, whole)
    # Only in a bound question nothing else looks like a parameter: keys have no names there.
    names = parameters_in(bound)
    if len(names) > 0:
        raise BadParameter(names[0])
