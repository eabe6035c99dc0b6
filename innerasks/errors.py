"""The errors of the whole program. Each keeps its fields as attributes."""


class InvalidSchema(ValueError):
    """An argument of a Column, a Table or a Schema is wrong; word is its name."""

    def __init__(self, word):
        self.word = word


class InvalidRows(ValueError):
    """The rows of the table word are no list of rows of this table."""

    def __init__(self, word):
        self.word = word


class Broken(ValueError):
    """Rows do not keep their schema; found is the first break."""

    def __init__(self, found):
        self.found = found


class SameName(ValueError):
    """The name word is there already."""

    def __init__(self, word):
        self.word = word


class BadGroup(ValueError):
    """The column word is not allowed where it stands, or as a group."""

    def __init__(self, word):
        self.word = word


class BadAggregate(ValueError):
    """The aggregate word must not stand where it stands."""

    def __init__(self, word):
        self.word = word


class BadKind(ValueError):
    """The kinds in the tree or at the place word do not fit."""

    def __init__(self, word):
        self.word = word


class BadShape(ValueError):
    """A question has not the number of items for which word asks."""

    def __init__(self, word):
        self.word = word


class NoQuestion(ValueError):
    """A text is no question; place is where it stops being one."""

    def __init__(self, place):
        self.place = place


class BadParameter(ValueError):
    """The parameter word is not passed, is no value, or does not occur."""

    def __init__(self, word):
        self.word = word


class InvalidPlan(ValueError):
    """A node of a plan is wrong; word says in what."""

    def __init__(self, word):
        self.word = word


class FreeColumns(ValueError):
    """A plan that is run has free columns."""

    def __init__(self, value):
        self.value = value


class BadColumns(ValueError):
    """A Scan has another number of columns than the table word."""

    def __init__(self, word):
        self.word = word


class NoRoad(ValueError):
    """The step at index is none, or does not fit."""

    def __init__(self, index):
        self.index = index


class InvalidCount(ValueError):
    """A number is not within its limits."""

    def __init__(self, value):
        self.value = value


class InvalidStore(ValueError):
    """An argument of a Store is wrong; word is its name."""

    def __init__(self, word):
        self.word = word


class NotFlat(ValueError):
    """A plan has a Depend at path."""

    def __init__(self, path):
        self.path = path


class BadWay(ValueError):
    """A Join cannot run in the way that is asked for it."""

    def __init__(self, path):
        self.path = path


class InvalidName(ValueError):
    """A value is no name."""

    def __init__(self, value):
        self.value = value


class InvalidChange(ValueError):
    """The change at index is none."""

    def __init__(self, index):
        self.index = index


class WrongWidth(ValueError):
    """The question of the change at index has another number of items than its table."""

    def __init__(self, index):
        self.index = index


class InvalidText(ValueError):
    """A line of a text has not the form of a line in its place."""

    def __init__(self, line):
        self.line = line


class UnknownTable(KeyError):
    """There is no table with the name word."""

    def __init__(self, word):
        self.word = word


class UnknownColumn(KeyError):
    """There is no column word, or none of the source alias; alias is None where none is told."""

    def __init__(self, alias, word):
        self.alias = alias
        self.word = word


class UnknownRule(KeyError):
    """There is no rule with this name."""

    def __init__(self, value):
        self.value = value


class UnknownView(KeyError):
    """There is no view with this name."""

    def __init__(self, value):
        self.value = value


class UnknownName(KeyError):
    """Nothing has this name."""

    def __init__(self, value):
        self.value = value


class Ambiguous(LookupError):
    """Two sources of the nearest select have a column word."""

    def __init__(self, word):
        self.word = word


class NoPlace(LookupError):
    """A plan has no node at path."""

    def __init__(self, path):
        self.path = path


class NoRule(LookupError):
    """The rule value does not fit at path."""

    def __init__(self, value, path):
        self.value = value
        self.path = path


class NoColumn(LookupError):
    """A plan has no such column."""

    def __init__(self, value):
        self.value = value


class TooMany(ArithmeticError):
    """There is more than limit allows."""

    def __init__(self, limit):
        self.limit = limit


class Several(RuntimeError):
    """More than one row stands where one may stand at most."""


class InUse(RuntimeError):
    """The view or the prepared question word uses it."""

    def __init__(self, word):
        self.word = word


class NothingToUndo(RuntimeError):
    """No step stands that can be undone."""


class NothingToRedo(RuntimeError):
    """No step has been taken back that can be made again."""
