"""A second derivation of facts, with sets, straight from the words of [51] and [52]; the tests compare both."""

from itertools import count, product

from innerasks.lotplans import First, Group, Number
from innerasks.pairplans import Depend, Except, Intersect, Join, Union
from innerasks.plans import Compute, Distinct, Filter, Keep, Rows, Scan

NULL, SOLID = "null", "not null"


# [52]: what an expression can be, a set; known is a dict from columns to NULL or SOLID.

def can_be(e, known):
    word = e[0]
    if word == "value":
        return {NULL} if e[1] is None else {SOLID}
    if word == "column":
        return {known[e[1]]} if e[1] in known else {NULL, SOLID}
    if word == "param":
        return {NULL, SOLID}
    if word in "+-*":
        return {NULL} if {NULL} in (can_be(e[1], known), can_be(e[2], known)) else {NULL, SOLID}
    if word == "coalesce":
        parts = [can_be(part, known) for part in e[1]]
        if {SOLID} in parts:
            return {SOLID}
        return {NULL, SOLID} if {NULL, SOLID} in parts else {NULL}
    found = set()
    for condition, branch in e[1]:
        truths = truths_of(condition, known)
        if True in truths:
            found |= can_be(branch, known)
        if truths == {True}:
            return found
    return found | can_be(e[2], known)


def kleene_and(truths):
    return False if False in truths else None if None in truths else True


def kleene_or(truths):
    return True if True in truths else None if None in truths else False


def truths_of(c, known):
    word = c[0]
    if word == "truth":
        return {True, False, None}
    if word == "not":
        return {None if truth is None else not truth for truth in truths_of(c[1], known)}
    if word in ("and", "or"):
        told = kleene_and if word == "and" else kleene_or
        return {told(choice) for choice in product(*[truths_of(part, known) for part in c[1]])}
    if word == "null":
        return {kind == NULL for kind in can_be(c[1], known)}
    sides = [can_be(c[1], known), can_be(c[2], known)]
    if word == "is":
        if sides == [{NULL}, {NULL}]:
            return {True}
        return {False} if {NULL} in sides and {SOLID} in sides else {True, False}
    if {NULL} in sides:
        return {None}
    return {True, False, None} if {NULL, SOLID} in sides else {True, False}


def columns_of(tree):
    if isinstance(tree, tuple):
        if len(tree) == 2 and tree[0] in ("column", "truth"):
            return {tree[1]}
        return set().union(*[columns_of(part) for part in tree]) if tree else set()
    return set()


class Derived:
    new = count(1)

    def __init__(self, columns, marks=(), never=(), deps=(), most=None, quiet=True):
        self.columns = list(columns)
        self.marks = set(marks)
        self.never = set(never)
        self.deps = [(frozenset(needs), frozenset(x), c) for needs, x, c in deps]
        self.most = most
        self.quiet = quiet

    def imaginary(self):
        return ("imaginary", next(Derived.new))

    def add(self, x, *columns, needs=()):
        self.deps += [(frozenset(needs), frozenset(x), c) for c in columns]

    def closure(self, columns):
        found = set(columns)
        while True:
            more = {c for needs, x, c in self.deps if needs <= self.never and x <= found} - found
            if not more:
                return found
            found |= more

    def copy(self):
        return Derived(self.columns, self.marks, self.never, self.deps, self.most, self.quiet)

    def rename(self, columns, names):
        told = lambda part: names.get(part, part)
        self.deps = [(frozenset(map(told, needs)), frozenset(map(told, x)), told(c)) for needs, x, c in self.deps]
        self.never = set(map(told, self.never))
        self.marks = set(map(told, self.marks))
        self.columns = list(columns)

    def leave(self, columns):
        self.rename(columns, {c: self.imaginary() for c in self.columns if c not in columns})

    def cut(self, columns):
        stays = self.closure(columns)
        self.deps = [(needs, x, c) for needs, x, c in self.deps if needs | x | {c} <= stays]
        self.never &= stays
        self.marks &= stays

    def new_mark(self):
        mark = self.imaginary()
        self.marks = {mark}
        self.never.add(mark)
        return mark

    def fill(self, foreign=()):
        deps = []
        for needs, x, c in self.deps:
            if needs <= self.never:
                needs = frozenset()
            if not needs:
                own = x - set(foreign)
                if not own & self.never:
                    if not own:
                        continue
                    needs = own
            deps.append((needs, x, c))
        self.deps = deps
        self.never = set()

    def give(self, condition, columns, known_never):
        base = {c: SOLID for c in known_never}
        for c in columns:
            if True not in truths_of(condition, {**base, c: NULL}):
                self.never.add(c)
        for part in all_parts(condition):
            if part[0] in ("=", "is"):
                for one, other in ((part[1], part[2]), (part[2], part[1])):
                    if one[0] == "column" and one[1] in columns:
                        self.add(columns_of(other) & set(columns), one[1])
            if part[0] == "truth" or part[0] == "not" and part[1][0] == "truth":
                c, = columns_of(part)
                if c in columns:
                    self.never.add(c)
                    self.add((), c)


def all_parts(condition):
    if condition[0] == "and":
        return [deeper for part in condition[1] for deeper in all_parts(part)]
    return [condition]


def times(one, other):
    return None if one is None or other is None else one * other


def less(one, other):
    return min([most for most in (one, other) if most is not None], default=None)


def derive(schema, plan):
    parts = [derive(schema, part) for part in plan.parts]
    found = node(schema, plan, *parts)
    found.quiet = found.quiet and all(part.quiet for part in parts)
    if found.most in (0, 1):
        found.add((), *found.marks)
    return found


def node(schema, plan, *parts):
    if isinstance(plan, Rows):
        told = Derived(plan.columns, most=len(plan.rows))
        mark = told.new_mark()
        told.add({mark}, *plan.columns)
        if len(set(plan.rows)) == len(plan.rows):
            told.add(plan.columns, mark)
        for index, c in enumerate(plan.columns):
            values = {row[index] for row in plan.rows}
            if len(values) < 2:
                told.add((), c)
            if None not in values:
                told.never.add(c)
        return told
    if isinstance(plan, Scan):
        told = Derived(plan.columns)
        mark = told.new_mark()
        told.add({mark}, *plan.columns)
        table = schema[plan.table]
        for key in table.unique:
            numbers = {plan.columns[table.place_of(name)] for name in key}
            told.add(numbers, mark, needs=numbers)
        told.never |= {c for c, column in zip(plan.columns, table.columns) if column.required}
        return told
    if isinstance(plan, Join):
        return join(plan, *parts)
    told = parts[0].copy()
    if isinstance(plan, Filter):
        told.give(plan.condition, plan.columns, parts[0].never)
    elif isinstance(plan, Compute):
        compute(plan, told)
    elif isinstance(plan, Keep):
        told.leave(plan.columns)
    elif isinstance(plan, Distinct):
        told.cut(plan.columns)
        mark = told.new_mark()
        told.add(plan.columns, mark)
        told.add({mark}, *plan.columns)
    elif isinstance(plan, Number):
        told.columns.append(plan.column)
        told.add(told.marks, plan.column)
        told.add(set(plan.by) | {plan.column}, *told.marks)
        told.never.add(plan.column)
    elif isinstance(plan, Group):
        group(plan, told)
    elif isinstance(plan, First):
        if plan.n in (0, 1):
            told.add(plan.by, *told.marks)
        if plan.by == ():
            told.most = less(plan.n, told.most)
    else:
        return pair(plan, told, parts[1].copy())
    return told


def compute(plan, told):
    known = {c: SOLID for c in told.never}
    never = set()
    for c, tree in plan.made:
        told.add(columns_of(tree) & set(told.columns), c)
        if tree[0] == "column" and tree[1] in told.columns:
            told.add({c}, tree[1])
        if tree[0] in ("value", "param", "column", "+", "-", "*", "case", "coalesce"):
            if can_be(tree, known) == {SOLID}:
                never.add(c)
        elif None not in truths_of(tree, known):
            never.add(c)
    told.never |= never
    told.columns += [c for c, _ in plan.made]


def group(plan, told):
    known = {c: SOLID for c in told.never}
    never = {c for c, e in plan.made if e[0] == "count"
             or plan.by and e[0] in ("least", "most") and can_be(e[1], known) == {SOLID}}
    told.cut(plan.by)
    told.leave(plan.by)
    told.columns = list(plan.columns)
    mark = told.new_mark()
    told.add(plan.by, mark)
    told.add({mark}, *plan.columns)
    told.never |= never
    if plan.by == ():
        told.most = 1


def pair(plan, one, other):
    one.rename(plan.columns, dict(zip(one.columns, plan.columns)))
    other.rename(plan.columns, dict(zip(other.columns, plan.columns)))
    if isinstance(plan, Except):
        return one
    if isinstance(plan, Union):
        told = Derived(plan.columns, never=one.never & other.never & set(plan.columns),
                       most=None if None in (one.most, other.most) else one.most + other.most)
        told.add({told.new_mark()}, *plan.columns)
        return told
    told = Derived(plan.columns, never=one.never | other.never, deps=one.deps + other.deps, most=less(one.most, other.most))
    mark = told.new_mark()
    told.add(one.marks, mark)
    told.add(other.marks, mark)
    told.add({mark}, *(one.marks | other.marks))
    return told


def inner(plan, left, right):
    told = Derived(left.columns + right.columns, left.marks | right.marks, left.never | right.never, left.deps + right.deps,
                   times(left.most, right.most))
    told.give(plan.condition, left.columns + right.columns, left.never | right.never)
    if told.most in (0, 1):
        told.add((), *told.marks)
    return told


def join(plan, left, right):
    left, right = left.copy(), right.copy()
    foreign = set(plan.right.free) & set(left.columns) if isinstance(plan, Depend) else set()
    right.deps = [(needs, x | foreign, c) for needs, x, c in right.deps]
    both = inner(plan, left, right)
    if plan.kind == "inner":
        return both
    if plan.kind in ("semi", "anti", "mark"):
        told = left.copy()
        if plan.kind == "semi":
            mine = set(left.columns)
            told.never |= {c for c in mine if True not in truths_of(
                plan.condition, {**{n: SOLID for n in left.never | right.never}, c: NULL})}
            given = Derived(both.columns)
            given.give(plan.condition, both.columns, left.never | right.never)
            told.never |= given_truths(plan.condition) & mine
            told.deps += [(needs, x, c) for needs, x, c in given.deps if x | {c} <= mine]
        if plan.kind == "mark":
            told.columns.append(plan.column)
            if None not in truths_of(plan.condition, {c: SOLID for c in left.never | right.never}):
                told.never.add(plan.column)
            told.add(left.marks, plan.column)
        return told
    match = right.marks & both.closure(left.marks)
    is_single_match = match == right.marks
    right.fill(foreign)
    told = left.copy()
    if plan.kind == "full":
        told.fill()
        told.most = None
    elif plan.kind == "single":
        told.add(left.marks, *right.marks)
        told.quiet = told.quiet and is_single_match
    else:
        told.add(left.marks, *match)
        if right.most is None or right.most > 1:
            told.most = times(left.most, right.most)
    told.columns = left.columns + right.columns
    told.marks = left.marks | right.marks
    told.deps += right.deps
    return told


def given_truths(condition):
    found = set()
    for part in all_parts(condition):
        if part[0] == "truth" or part[0] == "not" and part[1][0] == "truth":
            found |= columns_of(part)
    return found
