"""Plans at random (always the same ones) of the shapes at which rules are laid, over drawn parts."""

from innerasks.errors import InvalidPlan
from innerasks.lotplans import First, Group, Number
from innerasks.pairplans import Depend, Join, Union
from innerasks.plans import Compute, Distinct, Filter, Keep, Rows
from drawn_plans import PlanDrawer

SHAPES = ("kept inner", "kept outer", "null", "mark", "deep", "filtered", "combined", "once", "items", "order")
ALWAYS = ("and", ())


class ShapeDrawer(PlanDrawer):
    """Draws a plan of a shape; kinds are those of its free columns."""

    def shaped(self, shape, known):
        while True:
            try:
                return self.of_shape(shape, known)
            except InvalidPlan:
                continue

    def part(self, known, depth=1):
        """A part without columns that are known there, and their kinds."""
        while True:
            plan, kinds = self.plan(self.pick(0, 0, depth), known)
            if kinds:
                return plan, kinds

    def sides(self, known, node=Join):
        left, kinds = self.part(known)
        right, more = self.part({**known, **kinds} if node is Depend else known)
        if set(kinds) & set(more) or set(left.free) & set(more):
            raise InvalidPlan("columns")
        return left, kinds, right, more

    def linked(self, known, kinds, more):
        """A condition that compares columns of both sides, perhaps with more."""
        pairs = [(one, other) for one in kinds for other in more if kinds[one] == more[other] != "truth"]
        parts = [(self.pick("=", "=", "is"), ("column", one), ("column", other)) for one, other in self.random.sample(pairs, min(len(pairs), 2))]
        if self.chance(0.4):
            parts.append(self.condition({**known, **kinds, **more}, 1))
        return parts[0] if len(parts) == 1 else ("and", tuple(parts))

    def of_shape(self, shape, known):
        if shape in ("kept inner", "kept outer", "null", "mark"):
            return self.joined_shape(shape, known)
        if shape == "deep":
            return self.deep_shape(known)
        if shape == "once":
            plan, kinds = self.part(known, 3)
            return Distinct(plan), kinds
        if shape in ("filtered", "combined"):
            return self.filtered_shape(shape, known)
        plan, kinds = self.part(known, 2)
        if shape == "order":
            order = [(column, self.chance()) for column in self.some(kinds)]
            return Filter(First(plan, order, self.pick(None, None, 2), self.some(kinds)), self.condition({**known, **kinds}, 1)), kinds
        return self.items_shape(plan, kinds, known)

    def joined_shape(self, shape, known):
        node = self.pick(Join, Join, Depend)
        left, kinds, right, more = self.sides(known, node)
        if shape == "null":
            wanted = self.random.choice(list(more))
            right = Filter(right, ("not", ("null", ("column", wanted)))) if more[wanted] != "truth" else right
        condition = self.linked(known, kinds, more)
        kept = self.random.sample(list(kinds), self.random.randint(0, len(kinds)))
        told = {column: kinds[column] for column in kept}
        if shape == "kept inner":
            plan = Keep(node("inner", left, right, condition), kept)
            return (Distinct(plan) if self.chance(0.5) else plan), told
        if shape == "kept outer":
            return Keep(node(self.pick("left", "single"), left, right, condition), kept), told
        if shape == "null":
            return Keep(Filter(node("left", left, right, condition), ("null", ("column", wanted))), kept), told
        column, = self.fresh(1, {**known, **kinds, **more})
        truth = self.pick(("truth", column), ("not", ("truth", column)))
        return Keep(Filter(node("mark", left, right, condition, column), truth), kept), told

    def deep_shape(self, known):
        left, kinds, right, more = self.sides(known)
        other, most = self.part(known)
        inner = Join("inner", left, right, self.linked(known, kinds, more))
        told = {**kinds, **more}
        condition = self.linked(known, told, most)
        plan = Join("inner", inner, other, condition) if self.chance(0.5) else Join("inner", other, inner, condition)
        return plan, {**told, **most} if plan.left == inner else {**most, **told}

    def filtered_shape(self, shape, known):
        if shape == "combined":
            one, kinds = self.part(known)
            columns = self.fresh(len(kinds), {**known, **kinds})
            other = Rows(list(range(9100, 9100 + len(kinds))), ())
            plan = Union(one, other, columns) if all(kind != "truth" for kind in kinds.values()) else Union(one, one, columns)
            kinds = dict(zip(columns, kinds.values()))
        else:
            left, kinds, right, more = self.sides(known)
            kind = self.pick("inner", "left", "full", "full", "single", "semi")
            plan = Join(kind, left, right, self.linked(known, kinds, more))
            kinds = kinds if kind == "semi" else {**kinds, **more}
        told = [("not", ("null", ("column", column))) for column in kinds if kinds[column] != "truth"]
        parts = self.random.sample(told, min(len(told), 2)) + [self.condition({**known, **kinds}, 1)]
        return Filter(plan, self.pick(("and", tuple(parts)), parts[0], parts[-1])), kinds

    def items_shape(self, plan, kinds, known):
        seen = {**known, **kinds}
        one, two = self.fresh(2, seen)
        word = self.pick("compute", "group", "number", "twice", "kept")
        if word == "kept":
            columns = self.some(kinds, 1)
            return Keep(Keep(plan, columns), columns[:1]), {columns[0]: kinds[columns[0]]}
        if word == "number":
            return Keep(Number(plan, one, self.some(kinds)), self.some(kinds)), None
        if word == "group":
            by = self.pick([], self.some(kinds))
            return Keep(Group(plan, by, [(one, ("count", None, False)), (two, self.aggregate(seen)[1])]), by), None
        made = [(one, self.expression(seen, "whole", 1)), (two, self.condition(seen, 1))]
        if word == "twice":
            return Compute(Compute(plan, made[:1]), made[1:]), {**kinds, one: "whole", two: "truth"}
        return Keep(Compute(plan, made), self.some({**kinds, two: "truth"})), None
