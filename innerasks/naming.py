"""Names in questions: each column becomes the place of its value [24, 25], the first fault of names is told [27]."""

from innerasks.errors import Ambiguous, BadAggregate, BadGroup, SameName, UnknownColumn
from innerasks.trees import AGGREGATES, LISTS, has_aggregate, is_pair


class Level:
    """What is seen of one select: tuples (alias, names, place of the first), and the places that are allowed."""

    def __init__(self, sources, allowed):
        self.sources = sources
        # None where all are allowed.
        self.allowed = allowed


class Sight:
    """What is seen where an expression stands: levels, the nearest first, and whether an aggregate may stand here."""

    def __init__(self, schema, levels, may_aggregate):
        self.base = schema
        self.levels = levels
        self.may_aggregate = may_aggregate


# Questions.

def named_question(schema, question, levels):
    """The question with places for columns, and the names of its items."""
    word = question[0]
    if word == "select":
        return named_select(schema, question, levels)
    if word == "first":
        return named_first(schema, question, levels)
    _, is_all, one, other = question
    left, names = named_question(schema, one, levels)
    right, _ = named_question(schema, other, levels)
    return (word, is_all, left, right), names


def named_first(schema, question, levels):
    """The same for a question with an order."""
    _, inner, keys, n = question
    bound, names = named_question(schema, inner, levels)
    taken = []
    places = []
    for name, is_down in keys:
        if name not in names:
            raise UnknownColumn(None, name)
        taken.append(fresh(name, taken))
        places.append((names.index(name), is_down))
    return ("first", bound, tuple(places), n), names


def named_select(schema, question, levels):
    """The same for a select."""
    _, is_distinct, items, source, where, groups, having = question
    seen = []
    bound_source = named_source(schema, source, levels, seen)
    here = Level(tuple(seen), None)
    sight = Sight(schema, (here,) + levels, False)
    bound_where = None if where is None else named(sight, where)
    places = named_groups(sight, groups)
    if places is None and is_grouped(items, having):
        places = ()
    above = Sight(schema, (Level(here.sources, places),) + levels, True)
    bound_having = None if having is None else named(above, having)
    bound_items = named_items(above, items)
    bound_groups = None if places is None else tuple([("at", 0, place) for place in places])
    bound = ("select", is_distinct, bound_items, bound_source, bound_where, bound_groups, bound_having)
    return bound, tuple([name for _, name in bound_items])


def fresh(name, taken):
    """The name, if it is not taken yet."""
    if name in taken:
        raise SameName(name)
    return name


def is_grouped(items, having):
    """Whether a select without group by is grouped."""
    if having is not None:
        return True
    return items is not None and any([has_aggregate(e) for e, _ in items])


def named_groups(sight, groups):
    """The places of the groups of a select; None where it has no group by."""
    if groups is None:
        return None
    places = []
    for _, alias, name in groups:
        up, place = place_seen(sight.levels, alias, name)
        if up > 0:
            raise BadGroup(name)
        if place in places:
            raise SameName(name)
        places.append(place)
    return tuple(places)


def named_items(sight, items):
    """The items of a select, those that `*` stands for, too."""
    if items is None:
        told = [(("column", alias, name), name) for alias, names, _ in sight.levels[0].sources for name in names]
    else:
        told = items
    taken = []
    bound = []
    for e, name in told:
        tree = named(sight, e)
        taken.append(fresh(name, taken))
        bound.append((tree, name))
    return tuple(bound)


# Sources.

def named_source(schema, source, levels, seen):
    """A source with places for columns; what is seen of it is added to seen."""
    if source[0] == "join":
        return named_join(schema, source, levels, seen)
    _, asked, alias = source
    if source[0] == "table":
        bound = source
        names = tuple([column.name for column in schema[asked].columns])
    else:
        question, names = named_question(schema, asked, levels)
        bound = ("question", question, alias)
    fresh(alias, [other for other, _, _ in seen])
    ahead = sum([len(others) for _, others, _ in seen])
    seen.append((alias, names, ahead))
    return bound


def named_join(schema, source, levels, seen):
    """The same for a join: its condition sees what its two parts have added."""
    _, kind, one, other, condition = source
    ahead = len(seen)
    left = named_source(schema, one, levels, seen)
    right = named_source(schema, other, levels, seen)
    if condition is None:
        return ("join", kind, left, right, None)
    here = Level(tuple(seen[ahead:]), None)
    return ("join", kind, left, right, named(Sight(schema, (here,) + levels, False), condition))


# Columns.

def place_seen(levels, alias, name):
    """The tuple (up, place) of a column."""
    for up, level in enumerate(levels):
        fits = sources_that_fit(level, alias, name)
        if len(fits) > 1:
            raise Ambiguous(name)
        if len(fits) == 1:
            _, names, ahead = fits[0]
            if name not in names:
                # The nearest source with this alias hides those further out.
                raise UnknownColumn(alias, name)
            place = ahead + names.index(name)
            if level.allowed is not None and place not in level.allowed:
                raise BadGroup(name)
            return up, place
    raise UnknownColumn(alias, name)


def sources_that_fit(level, alias, name):
    """The sources of a level with this alias, or, without an alias, with a column of this name."""
    if alias is None:
        return [source for source in level.sources if name in source[1]]
    return [source for source in level.sources if source[0] == alias]


# Expressions and conditions.

def named(sight, tree):
    """An expression or a condition with places for columns."""
    word = tree[0]
    if is_pair(word):
        return (word, named(sight, tree[1]), named(sight, tree[2]))
    if word in ("value", "param"):
        return tree
    if word == "column":
        up, place = place_seen(sight.levels, tree[1], tree[2])
        return ("at", up, place)
    if word in ("not", "null"):
        return (word, named(sight, tree[1]))
    if word in LISTS:
        return (word, tuple([named(sight, part) for part in tree[1]]))
    if word == "case":
        choices = [(named(sight, condition), named(sight, e)) for condition, e in tree[1]]
        return (word, tuple(choices), named(sight, tree[2]))
    if word in AGGREGATES:
        return named_aggregate(sight, tree)
    return named_asking(sight, tree)


def named_aggregate(sight, tree):
    """The same for an aggregate: all columns are allowed in it, but no other aggregate of the same select."""
    word = tree[0]
    if not sight.may_aggregate:
        raise BadAggregate(word)
    if tree[1] is None:
        return tree
    here = Level(sight.levels[0].sources, None)
    within = Sight(sight.base, (here,) + sight.levels[1:], False)
    return (word, named(within, tree[1])) + tree[2:]


def named_asking(sight, tree):
    """The same for one, exists, in, any and all: the question stands at the end, a side may stand ahead of it."""
    head = tree[:-1]
    if tree[0] in ("in", "any", "all"):
        head = tree[:-2] + (named(sight, tree[-2]),)
    question, _ = named_question(sight.base, tree[-1], sight.levels)
    return head + (question,)
