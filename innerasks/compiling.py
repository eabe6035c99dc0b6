"""The plan of a bound question [45]."""

from innerasks.failing import may_fail
from innerasks.forms import ALWAYS, NEVER
from innerasks.lotplans import First, Group, Number, has_order
from innerasks.pairplans import Depend, Except, Intersect, Join, Union
from innerasks.plans import Compute, Distinct, Filter, Keep, Scan
from innerasks.supply import Supply
from innerasks.trees import ASKING, SIDED, has_question, parts_of, rebuilt, set_aside


class Stage:
    """A plan that gets a column for each question in an expression over its rows."""

    def __init__(self, supply, below, levels):
        self.supply = supply
        self.below = below
        # The columns of the row of each select that is seen, the nearest first.
        self.levels = levels
        # The columns of the aggregates that are set aside.
        self.aside = ()


def compiled(schema, question):
    """A plan of a bound question."""
    plan = plan_asked(schema, Supply(), question, ())
    # A select from an ordered question has no order of its own, but its plan may be that of the question.
    if question[0] != "first" and has_order(plan):
        return Keep(plan, plan.columns)
    return plan


# Questions.

def plan_asked(schema, supply, question, levels):
    """The plan of a question; levels are the columns of the rows around it."""
    word = question[0]
    if word == "select":
        return plan_selected(schema, supply, question, levels)
    if word == "first":
        _, inner, order, n = question
        plan = plan_asked(schema, supply, inner, levels)
        return First(plan, [(plan.columns[index], is_down) for index, is_down in order], n)
    _, is_all, asked, asked_too = question
    one = plan_asked(schema, supply, asked, levels)
    other = plan_asked(schema, supply, asked_too, levels)
    return plan_combined(word, is_all, one, other, supply.several(len(one.columns)))


def plan_combined(word, is_all, one, other, columns):
    """The plan of a union, except or intersect."""
    if word == "union":
        plan = Union(one, other, columns)
        return plan if is_all else Distinct(plan)
    # Where one has each row once, so has the outcome.
    left = one if is_all else Distinct(one)
    return Except(left, other, columns) if word == "except" else Intersect(left, other, columns)


def plan_selected(schema, supply, question, levels):
    """The plan of a select."""
    _, is_distinct, items, source, where, groups, having = question
    row = []
    below = plan_of_source(schema, supply, source, levels, row)
    stage = Stage(supply, below, (tuple(row),) + levels)
    if where is not None:
        filter_stage(schema, stage, where)
    trees = [e for e, _ in items]
    if groups is not None:
        trees = group_stage(schema, stage, trees, groups, having)
    plan = plan_of_items(stage, [translated(schema, stage, e) for e in trees])
    return Distinct(plan) if is_distinct else plan


def filter_stage(schema, stage, condition):
    """Keeps the rows for which a condition is True."""
    truth = translated(schema, stage, condition)
    stage.below = Filter(stage.below, truth)


def group_stage(schema, stage, trees, groups, having):
    """Makes lots of the rows; gives the trees of the items with their aggregates set aside."""
    found = []
    condition = None if having is None else set_aside(having, found)
    told = [set_aside(e, found) for e in trees]
    made = []
    for tree in found:
        e = None if tree[1] is None else translated(schema, stage, tree[1])
        made.append((stage.supply.fresh(), (tree[0], e) + tree[2:]))
    by = [stage.levels[0][place] for _, _, place in groups]
    stage.below = Group(stage.below, by, made)
    stage.aside = tuple([column for column, _ in made])
    if having is not None:
        filter_stage(schema, stage, condition)
    return told


def plan_of_items(stage, trees):
    """The plan of the items: a column that is one already need not be computed."""
    columns = []
    made = []
    for tree in trees:
        column = tree[1]
        if tree[0] != "column" or column in columns or column not in stage.below.columns:
            column = stage.supply.fresh()
            made.append((column, tree))
        columns.append(column)
    plan = Compute(stage.below, made) if len(made) > 0 else stage.below
    return plan if plan.columns == tuple(columns) else Keep(plan, columns)


# Sources.

def plan_of_source(schema, supply, source, levels, row):
    """The plan of a source, whose columns are added to the row of its select."""
    if source[0] == "join":
        return plan_of_join(schema, supply, source, levels, row)
    if source[0] == "table":
        plan = Scan(source[1], supply.several(len(schema[source[1]])))
    else:
        plan = plan_asked(schema, supply, source[1], levels)
    row.extend(plan.columns)
    return plan


def plan_of_join(schema, supply, source, levels, row):
    """The plan of a join."""
    _, kind, asked, asked_too, condition = source
    one = plan_of_source(schema, supply, asked, levels, row)
    other = plan_of_source(schema, supply, asked_too, levels, row)
    if condition is None:
        return Join("inner", one, other, ALWAYS)
    seen = (tuple(row),) + levels
    if has_question(condition):
        return plan_of_asking_join(schema, Stage(supply, None, seen), kind, one, other, condition)
    return Join(kind, one, other, translated(schema, Stage(supply, None, seen), condition))


def plan_of_asking_join(schema, stage, kind, one, other, condition):
    """The plan of a join with questions in its condition: they are asked for all pairs."""
    if kind == "left":
        return plan_of_left_join(schema, stage, one, other, condition)
    if kind == "full":
        plan = plan_of_full_join(schema, stage, one, other, condition)
    else:
        plan = fellows(schema, stage, Join("inner", one, other, ALWAYS), condition)
    return Keep(plan, one.columns + other.columns)


def plan_of_left_join(schema, stage, one, other, condition):
    """The same for a left join."""
    if may_fail(other) and len(one) <= len(other):
        near, met = stage.supply.several(2)
        pairs = fellows(schema, stage, Join("inner", Number(one, met), other, ALWAYS), condition)
        plan = Join("left", Number(one, near), Keep(pairs, (met,) + other.columns), same(near, met))
        return Keep(plan, one.columns + other.columns)
    # A Depend does not run its right part if left has no row; but it must be run where it may be Several.
    left = Join("anti", one, Keep(other, ()), NEVER) if may_fail(other) else one
    pairs = fellows(schema, stage, other, condition)
    return Depend("left", left, Keep(pairs, other.columns), ALWAYS)


def fellows(schema, stage, below, condition):
    """The rows of a plan for which a condition with questions is True."""
    stage.below = below
    filter_stage(schema, stage, condition)
    return stage.below


def plan_of_full_join(schema, stage, one, other, condition):
    """The plan of a full join with questions in its condition, and more columns: the smaller side is in it twice."""
    met, met_too = stage.supply.several(2)
    if len(one) < len(other):
        half = Depend("left", other, Keep(fellows(schema, stage, Number(one, met), condition), (met,)), ALWAYS)
        return Join("full", Number(one, met_too), half, same(met_too, met))
    half = Depend("left", one, Keep(fellows(schema, stage, Number(other, met), condition), (met,)), ALWAYS)
    return Join("full", half, Number(other, met_too), same(met, met_too))


def same(column, other):
    """The condition that two numbers of rows are the same."""
    return ("=", ("column", column), ("column", other))


# Expressions and conditions.

def translated(schema, stage, tree):
    """An expression or a condition over the rows of a stage, which gets a column for each question in it."""
    word = tree[0]
    if word == "at":
        return ("column", stage.levels[tree[1]][tree[2]])
    if word == "told":
        return ("column", stage.aside[tree[1]])
    if word in ASKING:
        return translated_asking(schema, stage, tree)
    return rebuilt(tree, [translated(schema, stage, part) for part in parts_of(tree)])


def translated_asking(schema, stage, tree):
    """The same for one, exists, in, any and all."""
    word = tree[0]
    side = translated(schema, stage, tree[-2]) if word in SIDED else None
    plan = plan_asked(schema, stage.supply, tree[-1], stage.levels)
    if word == "one":
        stage.below = Depend("single", stage.below, plan, ALWAYS)
        return ("column", plan.columns[0])
    column = stage.supply.fresh()
    condition = ALWAYS
    if word != "exists":
        condition = ("=" if word == "in" else tree[1], side, ("column", plan.columns[0]))
    if word == "all":
        # All comparisons are True where not one is not.
        stage.below = Depend("mark", stage.below, plan, ("not", condition), column)
        return ("not", ("truth", column))
    stage.below = Depend("mark", stage.below, plan, condition, column)
    return ("truth", column)
