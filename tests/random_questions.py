"""Trees of questions at random (always the same ones), and their texts with more parentheses than they need."""

import random

NAMES = ["a", "b", "x", "y", "t", "u", "name", "abcdefghijkl", "null" + "s", "selects"]
SIGNS = ["=", "<>", "<", "<=", ">", ">="]
STRINGS = ["", "a", "it's", "''", "select", " x ", "a(b", "z" * 40, "'" * 40, "~!&"]


class Maker:
    """Makes trees as the reader makes them [22]."""

    def __init__(self, seed):
        self.random = random.Random(seed)

    def one_of(self, *things):
        return self.random.choice(things)

    def chance(self, part=0.3):
        return self.random.random() < part

    def name(self):
        return self.random.choice(NAMES)

    def several(self, make, least=1, most=3):
        return tuple(make() for _ in range(self.random.randint(least, most)))

    def question(self, depth):
        kind = self.random.randrange(8) if depth > 0 else 0
        if kind < 5:
            return self.select(depth)
        if kind == 5:
            keys = self.several(lambda: (self.name(), self.chance()))
            return ("first", self.question(depth - 1), keys, self.one_of(None, 0, 3, 10 ** 39))
        word = self.one_of("union", "except", "intersect")
        return (word, self.chance(), self.question(depth - 1), self.question(depth - 1))

    def select(self, depth):
        items = None if self.chance(0.2) else self.several(lambda: self.item(depth))
        where = self.e(depth) if self.chance() else None
        groups = self.several(self.column, 0, 2) if self.chance() else None
        having = self.e(depth) if self.chance(0.2) else None
        return ("select", self.chance(), items, self.source(depth), where, groups, having)

    def item(self, depth):
        e = self.e(depth)
        if e[0] == "column" and self.chance(0.7):
            return (e, e[2])
        return (e, self.name())

    def source(self, depth):
        kind = self.random.randrange(6) if depth > 0 else 0
        if kind < 3:
            name = self.name()
            return ("table", name, self.one_of(name, self.name()))
        if kind == 3:
            return ("question", self.question(depth - 1), self.name())
        word = self.one_of("inner", "left", "full", "cross")
        condition = None if word == "cross" else self.e(depth - 1)
        return ("join", word, self.source(depth - 1), self.source(depth - 1), condition)

    def column(self):
        return ("column", self.one_of(None, self.name()), self.name())

    def leaf(self):
        kind = self.random.randrange(6)
        if kind == 0:
            return ("value", self.one_of(0, 1, -1, -37, 10 ** 40 - 1, 1 - 10 ** 40))
        if kind == 1:
            return ("value", self.random.choice(STRINGS))
        if kind == 2:
            return self.one_of(("value", None), ("param", self.name()), ("count", None, False))
        return self.column()

    def e(self, depth):
        if depth <= 0 or self.chance(0.2):
            return self.leaf()
        low = depth - 1
        word = self.one_of(
            "+", "-", "*", "minus", "is", "sign", "sign", "null", "not", "not", "and", "or", "in", "any", "exists",
            "one", "case", "coalesce", "count", "sum",
        )
        if word in ("+", "-", "*", "is"):
            return (word, self.e(low), self.e(low))
        if word == "minus":
            return ("-", ("value", 0), self.e(low))
        if word == "sign":
            return (self.random.choice(SIGNS), self.e(low), self.e(low))
        if word in ("null", "not"):
            return (word, self.e(low))
        if word in ("and", "or"):
            return (word, self.several(lambda: self.e(low), 2, 3))
        if word == "coalesce":
            return (word, self.several(lambda: self.e(low)))
        return self.rest(word, low)

    def rest(self, word, low):
        if word == "in":
            return (word, self.e(low), self.question(low))
        if word == "any":
            return (self.one_of("any", "all"), self.random.choice(SIGNS), self.e(low), self.question(low))
        if word in ("exists", "one"):
            return (word, self.question(low))
        if word == "case":
            return (word, self.several(lambda: (self.e(low), self.e(low))), self.e(low))
        if word == "count":
            return (word, self.e(low), self.chance())
        return (self.one_of("sum", "least", "most"), self.e(low))


class Writer:
    """The words of a tree, with parentheses around everything, and ways of writing picked at random."""

    def __init__(self, seed):
        self.random = random.Random(seed)

    def chance(self, part=0.5):
        return self.random.random() < part

    def parted(self, lists):
        words = []
        for told in lists:
            words += ([","] if words else []) + told
        return words

    def question(self, tree):
        word = tree[0]
        if word == "select":
            return self.select(tree)
        if word == "first":
            keys = self.parted([[name, "desc"] if down else [name] for name, down in tree[2]])
            return self.enclosed(tree[1]) + ["order", "by"] + keys + ([] if tree[3] is None else ["first", str(tree[3])])
        return self.enclosed(tree[2]) + [word] + (["all"] if tree[1] else []) + self.enclosed(tree[3])

    def enclosed(self, tree):
        words = ["("] + self.question(tree) + [")"]
        return ["("] + words + [")"] if self.chance(0.1) else words

    def select(self, tree):
        _, is_distinct, items, source, where, groups, having = tree
        words = ["select"] + (["distinct"] if is_distinct else [])
        words += ["*"] if items is None else self.parted([self.item(*item) for item in items])
        words += ["from"] + self.sources(source)
        words += [] if where is None else ["where"] + self.e(where)
        if groups is not None:
            words += ["group", "by"] + (self.parted([self.column(part) for part in groups]) or ["(", ")"])
        return words + ([] if having is None else ["having"] + self.e(having))

    def item(self, e, name):
        words = self.e(e)
        return words if e[0] == "column" and e[2] == name and self.chance() else words + ["as", name]

    def sources(self, tree):
        if tree[0] == "join" and tree[1] == "cross" and self.chance(0.8):
            return self.sources(tree[2]) + [","] + self.single(tree[3])
        return self.source(tree)

    def source(self, tree):
        if tree[0] != "join":
            return self.single(tree)
        _, kind, one, other, condition = tree
        words = (["inner"] if self.chance() else []) if kind == "inner" else [kind]
        words = self.single(one) + words + ["join"] + self.single(other)
        return words if condition is None else words + ["on"] + self.e(condition)

    def single(self, tree):
        if tree[0] == "join" or self.chance(0.1):
            return ["("] + self.source(tree) + [")"]
        if tree[0] == "question":
            return self.enclosed(tree[1]) + ["as", tree[2]]
        return [tree[1]] if tree[1] == tree[2] and self.chance() else [tree[1], "as", tree[2]]

    def column(self, tree):
        return [tree[2]] if tree[1] is None else [tree[1], ".", tree[2]]

    def e(self, tree):
        words = self.bare(tree)
        return words if len(words) == 1 and self.chance() else ["("] + words + [")"]

    def bare(self, tree):
        word = tree[0]
        if word == "value":
            return self.value(tree[1])
        if word == "param":
            return [":" + tree[1]]
        if word == "column":
            return self.column(tree)
        if word == "-" and tree[1] == ("value", 0) and self.chance():
            return ["-"] + ["("] + self.bare(tree[2]) + [")"]
        if word in ("not", "null"):
            return self.denied(tree)
        if word in ("and", "or"):
            told = [self.e(part) for part in tree[1]]
            return told[0] + [part for words in told[1:] for part in [word] + words]
        if word in ("in", "any", "all", "exists", "one"):
            return self.asking(tree)
        if word in ("coalesce", "count", "sum", "least", "most", "case"):
            return self.called(tree)
        return self.e(tree[1]) + [word] + (["("] + self.bare(tree[2]) + [")"] if word == "is" else self.e(tree[2]))

    def value(self, value):
        if value is None:
            return ["null"]
        if isinstance(value, str):
            return ["'" + value.replace("'", "''") + "'"]
        return [str(value)] if value >= 0 else ["-", str(-value)]

    def denied(self, tree):
        word, inner = tree
        if word == "null":
            return self.e(inner) + ["is", "null"]
        if inner[0] == "null" and self.chance():
            return self.e(inner[1]) + ["is", "not", "null"]
        if inner[0] == "is" and self.chance():
            return self.e(inner[1]) + ["is", "not", "("] + self.bare(inner[2]) + [")"]
        if inner[0] == "in" and self.chance():
            return self.e(inner[1]) + ["not", "in"] + self.enclosed(inner[2])
        return ["not"] + self.e(inner)

    def asking(self, tree):
        word = tree[0]
        if word == "in":
            return self.e(tree[1]) + ["in"] + self.enclosed(tree[2])
        if word in ("any", "all"):
            return self.e(tree[2]) + [tree[1], word] + self.enclosed(tree[3])
        return [word] + self.enclosed(tree[1])

    def called(self, tree):
        word = tree[0]
        if word == "case":
            words = ["case"]
            for condition, e in tree[1]:
                words += ["when"] + self.e(condition) + ["then"] + self.e(e)
            if tree[2] != ("value", None) or self.chance():
                words += ["else"] + self.e(tree[2])
            return words + ["end"]
        if word == "coalesce":
            return [word, "("] + self.parted([self.e(part) for part in tree[1]]) + [")"]
        if tree[1] is None:
            return [word, "(", "*", ")"]
        return [word, "("] + (["distinct"] if word == "count" and tree[2] else []) + self.e(tree[1]) + [")"]


def depth_of(words):
    """How many `(` and `case` are open at most."""
    depth = most = 0
    for word in words:
        depth += (word in ("(", "case")) - (word in (")", "end"))
        most = max(most, depth)
    return most


def text_of(words, maker):
    """The words as a text, with spaces and newlines at random; and the place of each of them."""
    text, places = maker.choice(["", " ", "\n"]), []
    for at, word in enumerate(words):
        if at > 0 and not (words[at - 1] in "(),.*" or word in "(),.*") or maker.random() < 0.3:
            text += maker.choice([" ", "  ", "\n", " \n "])
        places.append(len(text))
        text += word
    return text + maker.choice(["", " ", "\n"]), places
