"""Questions of the schema ASKED as texts, and their answers."""

from innerasks.binding import bind
from innerasks.databases import Database
from innerasks.errors import Several
from innerasks.plain import answer
from innerasks.reader import read_question
from samples import ASKED

T = [(1, 10, "a"), (1, 10, "a"), (2, None, "b"), (None, 30, None)]
U = [(1, "a"), (1, "b"), (2, None), (None, "a")]
V = [(1,), (2,), (None,)]
BASE = Database(ASKED, {"t": T, "u": U, "v": V})
EMPTY = Database(ASKED)


def bound(text):
    return bind(ASKED, read_question(text))[0]


def ask(text, base=BASE, **params):
    return answer(base, bound(text), params=params)


def outcome(call):
    """What a call returns, or the text "several"."""
    try:
        return call()
    except Several:
        return "several"


def worth_of(text, base=BASE, **params):
    """The value of an expression, asked of one row."""
    (value,), = ask(f"select {text} as k from v where w = 1", base, **params)
    return value


def truth_of(text, base=BASE, **params):
    """The truth of a condition, asked of one row."""
    number = worth_of(f"case when {text} then 1 when not ({text}) then 0 end", base, **params)
    return None if number is None else number == 1
