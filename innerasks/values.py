"""Values, rows and bags [10], truths and comparisons [11], sums and aggregates [12]."""

MOST_CHARACTERS = 40
PERCENT = 37


def is_whole(thing):
    """Whether a value is an integer; True and False are none."""
    return isinstance(thing, int) and not isinstance(thing, bool)


def is_text(thing):
    """Whether a value is a text that a row may hold."""
    if not isinstance(thing, str) or len(thing) > MOST_CHARACTERS:
        return False
    return all([" " <= letter <= "~" and ord(letter) != PERCENT for letter in thing])


def is_value(thing):
    """Whether it is null, an integer or a text."""
    return thing is None or is_whole(thing) or is_text(thing)


def is_row(thing):
    """Whether it is a tuple of values."""
    return isinstance(thing, tuple) and all([is_value(part) for part in thing])


def kind_of(value):
    """The kind of a value: "whole", "text", or None for null."""
    if value is None:
        return None
    return "text" if isinstance(value, str) else "whole"


def same(one, other):
    """Whether two values are the same: both null, or equal."""
    return one == other


def value_place(value):
    """What values are ordered by: null, then the integers, then the texts."""
    if value is None:
        return (0, 0, "")
    if isinstance(value, str):
        return (2, 0, value)
    return (1, value, "")


def row_place(row):
    """What rows are ordered by: their first values that are not the same."""
    return tuple([value_place(value) for value in row])


def in_order(rows):
    """The rows as a bag: a new list, in order."""
    return sorted(rows, key=row_place)


def compare(sign, one, other):
    """The truth of a comparison, or of `is`."""
    if sign == "is":
        return same(one, other)
    if one is None or other is None:
        return None
    if sign == "=":
        return same(one, other)
    if sign == "<>":
        return not same(one, other)
    left = value_place(one)
    right = value_place(other)
    if sign == "<":
        return left < right
    if sign == "<=":
        return left <= right
    return left > right if sign == ">" else left >= right


def negated(truth):
    """Not: unknown stays unknown."""
    return None if truth is None else not truth


def both(*truths):
    """And: False if one is, otherwise unknown if one is, otherwise True."""
    if False in truths:
        return False
    return None if None in truths else True


def either(*truths):
    """Or: True if one is, otherwise unknown if one is, otherwise False."""
    if True in truths:
        return True
    return None if None in truths else False


def reckon(sign, one, other):
    """The sum, difference or product of two values; null if one of them is no integer."""
    if not is_whole(one) or not is_whole(other):
        return None
    if sign == "+":
        return one + other
    return one - other if sign == "-" else one * other


def aggregate(word, values, *, distinct=False):
    """What "count", "sum", "least" or "most" makes of a list of values."""
    told = [value for value in values if value is not None]
    if word == "count":
        return len(set(told)) if distinct else len(told)
    if word == "sum":
        numbers = [value for value in told if is_whole(value)]
        return sum(numbers) if len(numbers) > 0 else None
    if len(told) == 0:
        return None
    return min(told, key=value_place) if word == "least" else max(told, key=value_place)
