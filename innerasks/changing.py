"""Changes of the tables of a database [68]."""

from innerasks.bags import less
from innerasks.errors import InvalidChange, UnknownTable, WrongWidth
from innerasks.parameters import parameters_in, passed
from innerasks.plain import answer
from innerasks.reader import read_question

CHANGES = ("insert", "remove", "replace")


def is_change(thing):
    """Whether it is a tuple (word, table, text)."""
    if not isinstance(thing, tuple) or len(thing) != 3 or thing[0] not in CHANGES:
        return False
    return isinstance(thing[1], str) and isinstance(thing[2], str)


def changes_bound(views, changes):
    """The changes with their questions bound: tuples (word, table, question)."""
    told = []
    for index, change in enumerate(changes):
        if not is_change(change):
            raise InvalidChange(index)
        word, name, text = change
        if name not in views.schema:
            raise UnknownTable(name)
        question, columns = views.bind(read_question(text))
        if len(columns) != len(views.schema[name]):
            raise WrongWidth(index)
        told.append((word, name, question))
    return told


def answers_of(base, questions, params):
    """The answers of all questions in a database; the parameters are those of all of them together."""
    told = passed(parameters_in(tuple(questions)), params)
    answers = []
    for question in questions:
        own = {name: told[name] for name in parameters_in(question)}
        answers.append(answer(base, question, params=own))
    return answers


def changed(base, views, changes, params):
    """The database after some changes, all questions of which are asked in the database as it is."""
    told = changes_bound(views, changes)
    answers = answers_of(base, [question for _, _, question in told], params)
    bags = base.rows
    for (word, name, _), rows in zip(told, answers):
        bags[name] = bag_changed(word, bags[name], rows)
    return base.replaced(**bags)


def bag_changed(word, bag, rows):
    """The rows of a table after a change with some rows."""
    if word == "insert":
        return bag + rows
    return less(bag, rows) if word == "remove" else rows
