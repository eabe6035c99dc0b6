"""Questions at random (always the same ones) that fit the schema ASKED, and databases with few rows."""

import random

from innerasks.databases import Database
from samples import ASKED

SIGNS = ["=", "<>", "<", "<=", ">", ">="]
TABLES = {
    "t": [("x", "whole"), ("y", "whole"), ("s", "text")],
    "u": [("x", "whole"), ("z", "text")],
    "v": [("w", "whole")],
}
LETTERS = "abcdefghijklmnopqrstuvwxyz"


def drawn_value(maker, kind):
    return maker.choice([None, 0, 1, 1, 2]) if kind == "whole" else maker.choice([None, "", "a", "a", "b"])


def drawn_database(maker, most=3):
    rows = {
        name: [tuple(drawn_value(maker, kind) for _, kind in columns) for _ in range(maker.randint(0, most))]
        for name, columns in TABLES.items()
    }
    return Database(ASKED, rows)


class Drawer:
    """Draws questions as the reader makes them [22]; scopes are the columns that are seen, the nearest select first."""

    def __init__(self, seed, params=None):
        self.random = random.Random(seed)
        self.count = 0
        # The parameters that may occur, by kinds; those that occur are noted.
        self.params = params or {}
        self.used = set()

    def chance(self, part=0.3):
        return self.random.random() < part

    def pick(self, *things):
        return self.random.choice(things)

    def alias(self):
        self.count += 1
        return LETTERS[self.count // 26 % 26] + LETTERS[self.count % 26] + "q"

    def kinds(self, least=1, most=3):
        return [self.pick("whole", "whole", "text") for _ in range(self.random.randint(least, most))]

    # Questions.

    def question(self, scopes, depth, kinds, names=LETTERS):
        kind = self.random.randrange(10) if depth > 0 else 0
        if kind < 7:
            return self.select(scopes, depth, kinds, names)
        if kind == 7:
            inner = self.question(scopes, depth - 1, kinds, names)
            places = self.random.sample(range(len(kinds)), self.random.randint(1, len(kinds)))
            keys = tuple((names[place], self.chance(0.5)) for place in places)
            return ("first", inner, keys, self.pick(None, 0, 1, 1, 2, 3))
        word = self.pick("union", "except", "intersect")
        one = self.question(scopes, depth - 1, kinds, names)
        other = self.question(scopes, depth - 1, kinds, names[5:] + names[:5])
        return (word, self.chance(0.5), one, other)

    def select(self, scopes, depth, kinds, names):
        source, columns = self.source(scopes, depth)
        where = self.condition([columns] + scopes, depth - 1, None) if self.chance(0.5) else None
        groups = having = None
        inner, asked = [columns] + scopes, None
        if self.chance(0.3):
            groups = tuple(self.random.sample(columns, self.random.randint(0, min(2, len(columns)))))
            inner, asked = [list(groups)] + scopes, [columns] + scopes
            if self.chance(0.4):
                having = self.condition(inner, depth - 1, asked)
        items = tuple(
            (self.expression(inner, depth - 1, kind, asked), name) for kind, name in zip(kinds, names)
        )
        told = None if groups is None else tuple(("column", alias, name) for alias, name, _ in groups)
        return ("select", self.chance(0.2), items, source, where, told, having)

    def source(self, scopes, depth):
        kind = self.random.randrange(8) if depth > 0 else 0
        if kind < 4:
            name = self.pick(*TABLES)
            alias = self.alias()
            return ("table", name, alias), [(alias, column, sort) for column, sort in TABLES[name]]
        if kind == 4:
            alias, kinds = self.alias(), self.kinds()
            question = self.question(scopes, depth - 1, kinds)
            return ("question", question, alias), [(alias, name, sort) for name, sort in zip(LETTERS, kinds)]
        word = self.pick("inner", "left", "left", "full", "cross")
        one, columns = self.source(scopes, depth - 1)
        other, more = self.source(scopes, depth - 1)
        seen = columns + more
        condition = None if word == "cross" else self.condition([seen] + scopes, depth - 1, None)
        return ("join", word, one, other, condition), seen

    # Expressions. Asked are the scopes within an aggregate, None where none may stand.

    def column(self, scopes, kind):
        told = [column for scope in scopes for column in scope if column[2] == kind]
        near = [column for column in (scopes[0] if scopes else []) if column[2] == kind]
        if not told:
            return ("value", drawn_value(self.random, kind))
        alias, name, _ = self.random.choice(near if near and self.chance(0.4) else told)
        return ("column", alias, name)

    def expression(self, scopes, depth, kind, asked):
        if asked is not None and self.chance(0.5):
            return self.aggregate(asked, depth, kind)
        if kind in self.params and self.chance(0.1):
            self.used.add(self.params[kind])
            return ("param", self.params[kind])
        if depth <= 0 or self.chance(0.45):
            return ("value", drawn_value(self.random, kind)) if self.chance(0.15) else self.column(scopes, kind)
        word = self.pick("sum", "case", "coalesce", "one", "one", "one")
        if word == "sum" and kind == "whole":
            sides = [self.expression(scopes, depth - 1, kind, asked) for _ in range(2)]
            return (self.pick("+", "-", "*"), *sides)
        if word == "case":
            choices = tuple(
                (self.condition(scopes, depth - 1, asked), self.expression(scopes, depth - 1, kind, asked))
                for _ in range(self.random.randint(1, 2))
            )
            return ("case", choices, self.expression(scopes, depth - 1, kind, asked))
        if word == "coalesce":
            return (word, tuple(self.expression(scopes, depth - 1, kind, asked) for _ in range(2)))
        if self.chance(0.5):
            # A question with one row at most: otherwise too many answers are Several.
            return ("one", self.single_row(scopes, depth - 1, kind))
        return ("one", self.question(scopes, depth - 1, [kind]))

    def single_row(self, scopes, depth, kind):
        source, columns = self.source(scopes, depth)
        where = self.condition([columns] + scopes, depth - 1, None) if self.chance(0.8) else None
        e = self.aggregate([columns] + scopes, depth, kind)
        return ("select", False, ((e, "a"),), source, where, None, None)

    def aggregate(self, asked, depth, kind):
        if kind == "text":
            return (self.pick("least", "most"), self.expression(asked, depth - 1, kind, None))
        word = self.pick("count", "count", "sum", "least", "most")
        if word == "count" and self.chance():
            return (word, None, False)
        sort = self.pick("whole", "text") if word == "count" else "whole"
        e = self.expression(asked, depth - 1, sort, None)
        return (word, e, self.chance(0.5)) if word == "count" else (word, e)

    def condition(self, scopes, depth, asked):
        kind = self.pick("whole", "whole", "text")
        if depth <= 0 or self.chance(0.3):
            sides = [self.expression(scopes, 0, kind, asked) for _ in range(2)]
            return (self.pick("is", "=", "=", *SIGNS), *sides)
        word = self.pick("sign", "null", "not", "and", "or", "exists", "exists", "in", "in", "any", "all")
        if word == "sign":
            sides = [self.expression(scopes, depth - 1, kind, asked) for _ in range(2)]
            return (self.pick("is", *SIGNS), *sides)
        if word == "null":
            return (word, self.expression(scopes, depth - 1, kind, asked))
        if word == "not":
            return (word, self.condition(scopes, depth - 1, asked))
        if word in ("and", "or"):
            return (word, tuple(self.condition(scopes, depth - 1, asked) for _ in range(self.random.randint(2, 3))))
        if word == "exists":
            return (word, self.question(scopes, depth - 1, self.kinds()))
        side = self.expression(scopes, depth - 1, kind, asked)
        question = self.question(scopes, depth - 1, [kind])
        return (word, side, question) if word == "in" else (word, self.pick(*SIGNS), side, question)
