"""What is known of the columns of a plan, while its facts are derived [51]."""

from innerasks.forms import moved


class Known:
    """What is known of a plan.

    Columns of the plan are their numbers; imaginary columns, marks among them, are numbers below 0. Links are the
    dependencies: tuples (needs, X, c). Never is a dict of the columns that are never null; limit is None, or the
    number of rows that there are at most.
    """

    def __init__(self, marks, never, links, limit, quiet):
        self.marks = marks
        self.never = never
        self.links = links
        self.limit = limit
        self.quiet = quiet


def reached(known, columns):
    """A dict of the columns that follow from some columns."""
    counting = [(froms, column) for needs, froms, column in known.links if are_there(needs, known.never)]
    waiting = list(columns) + [column for froms, column in counting if len(froms) == 0]
    # How many columns each link waits for, and which links wait for a column.
    missing = [len(froms) for froms, _ in counting]
    users = {}
    for index, (froms, _) in enumerate(counting):
        for column in froms:
            users.setdefault(column, []).append(index)
    found = {}
    while len(waiting) > 0:
        column = waiting.pop()
        if column in found:
            continue
        found[column] = True
        for index in users.get(column, []):
            missing[index] -= 1
            if missing[index] == 0:
                waiting.append(counting[index][1])
    return found


def are_there(columns, found):
    """Whether all of the columns are in a dict."""
    return all([column in found for column in columns])


def renumbered_known(known, numbers):
    """The same with other numbers for some columns."""
    links = []
    for needs, froms, column in known.links:
        links.append((moved(needs, numbers), moved(froms, numbers), numbers.get(column, column)))
    never = {numbers.get(column, column): True for column in known.never}
    return Known(moved(known.marks, numbers), never, links, known.limit, known.quiet)


def cut(known, columns):
    """The same without what does not follow from some columns; other marks take the place of its marks."""
    found = reached(known, columns)
    links = []
    for needs, froms, column in known.links:
        if column in found and are_there(needs, found) and are_there(froms, found):
            links.append((needs, froms, column))
    never = {column: True for column in known.never if column in found}
    return Known((), never, links, known.limit, known.quiet)


def filled(known, foreign):
    """The same with rows of nulls beside its own; foreign are the columns of left that a dependent part uses."""
    links = []
    for needs, froms, column in known.links:
        if not are_there(needs, known.never):
            links.append((needs, froms, column))
            continue
        own = tuple([part for part in froms if part not in foreign])
        if any([part in known.never for part in own]):
            links.append(((), froms, column))
        elif len(own) > 0:
            links.append((own, froms, column))
    return Known(known.marks, {}, links, known.limit, known.quiet)


def remarked(known, mark, links, never=()):
    """The same with one mark in the place of the others, more links and more columns that are never null."""
    told = {**known.never, mark: True}
    for column in never:
        told[column] = True
    return Known((mark,), told, known.links + links, known.limit, known.quiet)


def linked_to(froms, columns):
    """The links by which columns follow from some columns."""
    return [((), tuple(froms), column) for column in columns]
