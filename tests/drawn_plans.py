"""Plans at random (always the same ones) over the schema ASKED, with free columns, hidden columns and reused numbers."""

import random

from innerasks.errors import InvalidPlan
from innerasks.lotplans import First, Group, Number
from innerasks.pairplans import Depend, Except, Intersect, Join, Union
from innerasks.plans import Compute, Distinct, Filter, Keep, Rows, Scan
from drawn_questions import SIGNS, TABLES, drawn_value

NUMBERS = list(range(1, 13)) + list(range(9990, 10000))


class PlanDrawer:
    """Draws plans; what is known are the columns of the surroundings, a dict from numbers to kinds."""

    def __init__(self, seed, numbers=NUMBERS):
        self.random = random.Random(seed)
        self.numbers = numbers

    def chance(self, part=0.3):
        return self.random.random() < part

    def pick(self, *things):
        return self.random.choice(things)

    def fresh(self, many, taken):
        told = [number for number in self.numbers if number not in taken]
        return self.random.sample(told, many) if len(told) >= many else self.random.sample(range(20, 9000), many)

    def some(self, kinds, least=0):
        columns = list(kinds)
        least = min(least, len(columns))
        return self.random.sample(columns, self.random.randint(least, min(3, len(columns))))

    # Plans: a plan and a dict from its columns to their kinds.

    def plan(self, depth, known):
        while True:
            try:
                return self.node(depth, known)
            except InvalidPlan:
                # Numbers that clash: another one is drawn.
                continue

    def node(self, depth, known):
        kind = self.random.randrange(17) if depth > 0 else 0
        if kind < 2:
            return self.leaf(known)
        if kind < 7:
            return self.over_one(depth, known)
        if kind < 9:
            return self.over_lots(depth, known)
        if kind == 9:
            return self.combined(depth, known)
        return self.joined(depth, known)

    def leaf(self, known):
        if self.chance(0.7):
            name = self.pick(*TABLES)
            columns = self.fresh(len(TABLES[name]), known)
            return Scan(name, columns), {c: kind for c, (_, kind) in zip(columns, TABLES[name])}
        kinds = [self.pick("whole", "text") for _ in range(self.random.randint(0, 2))]
        columns = self.fresh(len(kinds), known)
        many = self.random.randint(0, 3)
        rows = [tuple(drawn_value(self.random, kind) for kind in kinds) for _ in range(many)]
        return Rows(columns, rows), dict(zip(columns, kinds))

    def over_one(self, depth, known):
        plan, kinds = self.plan(depth - 1, known)
        seen = {**known, **kinds}
        word = self.pick("filter", "filter", "compute", "keep", "distinct")
        if word == "filter":
            return Filter(plan, self.condition(seen, 2)), kinds
        if word == "compute":
            told = [self.pick("whole", "text", "truth") for _ in range(self.random.randint(0, 2))]
            columns = self.fresh(len(told), {**seen})
            made = [(column, self.tree(seen, kind, 2)) for column, kind in zip(columns, told)]
            return Compute(plan, made), {**kinds, **dict(zip(columns, told))}
        if word == "keep":
            columns = self.some(kinds)
            return Keep(plan, columns), {column: kinds[column] for column in columns}
        return Distinct(plan), kinds

    def over_lots(self, depth, known):
        plan, kinds = self.plan(depth - 1, known)
        seen = {**known, **kinds}
        by = self.some(kinds) if self.chance(0.6) else []
        word = self.pick("number", "group", "group", "first")
        if word == "number":
            column, = self.fresh(1, seen)
            return Number(plan, column, by), {**kinds, column: "whole"}
        if word == "first":
            order = [(column, self.chance(0.5)) for column in self.some(kinds)]
            return First(plan, order, self.pick(None, 0, 1, 1, 2), by), kinds
        many = self.random.randint(0, 2)
        columns = self.fresh(many, {**known, **{c: True for c in by}})
        made, told = [], {column: kinds[column] for column in by}
        for column in columns:
            kind, tree = self.aggregate(seen)
            made.append((column, tree))
            told[column] = kind
        return Group(plan, by, made), told

    def aggregate(self, seen):
        word = self.pick("count", "count", "sum", "least", "most")
        if word == "count" and self.chance():
            return "whole", (word, None, False)
        kind = self.pick("whole", "text")
        if word == "count":
            return "whole", (word, self.tree(seen, kind, 1), self.chance(0.5))
        if word == "sum":
            return "whole", (word, self.tree(seen, "whole", 1))
        return kind, (word, self.tree(seen, kind, 1))

    def combined(self, depth, known):
        one, kinds = self.plan(depth - 1, known)
        other, more = self.plan(depth - 1, known)
        told = list(kinds.values())
        if told != list(more.values()):
            # Made alike: the columns of the other part become items of the same kinds.
            columns = self.fresh(len(told), {**known, **more})
            made = [(column, self.tree({**known, **more}, kind, 1)) for column, kind in zip(columns, told)]
            other = Keep(Compute(other, made), columns)
        columns = self.fresh(len(told), known)
        node = self.pick(Union, Except, Intersect)
        return node(one, other, columns), dict(zip(columns, told))

    def joined(self, depth, known):
        left, kinds = self.plan(depth - 1, known)
        node = self.pick(Join, Depend, Depend)
        right, more = self.plan(depth - 1, {**known, **kinds} if node is Depend else known)
        kind = self.pick("inner", "left", "full", "semi", "anti", "mark", "single")
        if kind == "full" and node is Depend:
            kind = "inner"
        seen = {**known, **kinds, **more}
        condition = self.pick(("and", ()), self.condition(seen, 2), self.condition(seen, 1))
        if kind == "mark":
            column, = self.fresh(1, {**known, **kinds})
            return node(kind, left, right, condition, column), {**kinds, column: "truth"}
        plan = node(kind, left, right, condition)
        return plan, kinds if kind in ("semi", "anti") else {**kinds, **more}

    # Expressions and conditions over columns that are seen.

    def tree(self, seen, kind, depth):
        return self.condition(seen, depth) if kind == "truth" else self.expression(seen, kind, depth)

    def expression(self, seen, kind, depth):
        told = [column for column in seen if seen[column] == kind]
        if depth <= 0 or self.chance(0.5):
            if told and self.chance(0.85):
                return ("column", self.random.choice(told))
            return ("value", drawn_value(self.random, kind))
        word = self.pick("sum", "coalesce", "case")
        if word == "sum" and kind == "whole":
            return (self.pick("+", "-", "*"), *[self.expression(seen, kind, depth - 1) for _ in range(2)])
        if word == "case":
            choice = (self.condition(seen, depth - 1), self.expression(seen, kind, depth - 1))
            return (word, (choice,), self.expression(seen, kind, depth - 1))
        return ("coalesce", tuple(self.expression(seen, kind, depth - 1) for _ in range(self.random.randint(1, 2))))

    def condition(self, seen, depth):
        truths = [column for column in seen if seen[column] == "truth"]
        if truths and self.chance(0.4):
            return ("truth", self.random.choice(truths))
        word = self.pick("sign", "sign", "sign", "null", "not", "and", "or") if depth > 0 else "sign"
        kind = self.pick("whole", "whole", "text")
        if word == "sign":
            sign = self.pick("is", "=", "=", "=", *SIGNS)
            return (sign, *[self.expression(seen, kind, depth - 1) for _ in range(2)])
        if word == "null":
            return (word, self.expression(seen, kind, depth - 1))
        if word == "not":
            return (word, self.condition(seen, depth - 1))
        return (word, tuple(self.condition(seen, depth - 1) for _ in range(self.random.randint(0, 2))))


def around(known, plan, rows):
    """The plan with its free columns known: a Depend over rows of values of those; truths are told by 0, 1, null."""
    columns = list(known)
    hidden = [9000 + index for index in range(len(columns))]
    base = Rows(hidden, rows)
    made = []
    for column, other in zip(columns, hidden):
        told = ("column", other)
        made.append((column, ("=", told, ("value", 1)) if known[column] == "truth" else told))
    return Depend("inner", Compute(base, made), plan, ("and", ()))
