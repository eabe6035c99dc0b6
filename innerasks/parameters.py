"""The parameters of questions and plans, and the values that are passed for them."""

from innerasks.errors import BadParameter
from innerasks.values import is_value


def parameters_in(tree):
    """The names of the parameters in a tree, in the order of its entries, each once."""
    found = {}
    waiting = [tree]
    while len(waiting) > 0:
        part = waiting.pop()
        if not isinstance(part, tuple):
            continue
        # No other tuple of two entries begins so: an item begins with a tuple.
        if len(part) == 2 and part[0] == "param":
            found[part[1]] = True
        else:
            waiting.extend(part[::-1])
    return list(found)


def passed(names, params):
    """A new dict of the values that are passed for these names, and no others."""
    told = {} if params is None else params
    for name in names:
        if name not in told or not is_value(told[name]):
            raise BadParameter(name)
    extra = [name for name in told if name not in names]
    if len(extra) > 0:
        raise BadParameter(min(extra))
    return {name: told[name] for name in names}
