"""Questions are bound to a schema: their names are looked up, their kinds compared [24 to 27]."""

from innerasks.kinds import kinds_asked, settled
from innerasks.naming import named_question


def bind(schema, question):
    """The bound question, and a tuple (name, kind) for each of its items."""
    bound, names = named_question(schema, question, ())
    # All names come ahead of all kinds: a fault of kinds is told only where no name is wrong.
    kinds = settled(kinds_asked(schema, bound, ()))
    return (bound, tuple(zip(names, kinds)))
