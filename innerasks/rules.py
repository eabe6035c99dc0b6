"""Rules that make other plans with the same answer [52, 53]."""

from innerasks.errors import InvalidPlan, NoPlace, NoRule, UnknownRule
from innerasks.filterrules import AT_FILTERS, made_at_filter
from innerasks.joinrules import AT_JOINS, made_at_join
from innerasks.lotplans import has_order
from innerasks.noderules import made_at_other
from innerasks.spots import Lore, Spot

# In the order of the table.
NAMES = (
    "split", "merge", "idle", "vain", "past compute", "past keep", "past distinct", "past group", "past both",
    "into join", "out of join", "to left", "to right", "left inner", "full left", "full right", "turn", "deep right",
    "deep left", "once", "semi inner", "inner semi", "distinct semi", "join gone", "single left", "null anti",
    "mark semi", "mark anti", "free", "one keep", "no keep", "less", "no number", "one compute", "no order", "lots",
)


def made_by(name, spot):
    """What a node becomes by a rule, wherever it stands in its plan."""
    if name in AT_FILTERS:
        return made_at_filter(name, spot)
    return made_at_join(name, spot) if name in AT_JOINS else made_at_other(name, spot)


def made_at(spot, name):
    """What a node becomes by a rule; None where this does not fit."""
    try:
        made = made_by(name, spot)
    except InvalidPlan:
        return None
    # The whole plan must not get an order of its own.
    if made is not None and len(spot.path) == 0 and has_order(made):
        return None
    return made


def made_in(schema, plan, name, path):
    """The same for the node at a path, which may be any value."""
    try:
        node = plan.at(path)
    except NoPlace:
        return None
    return made_at(Spot(Lore(schema, plan), path, node), name)


def spots_in(schema, plan):
    """A list of all places in a plan, by walk."""
    lore = Lore(schema, plan)
    return [Spot(lore, path, node) for path, node in plan.walk()]


class Rule:
    """A rule, by its name."""

    def __init__(self, name):
        if name not in NAMES:
            raise UnknownRule(name)
        self._name = name

    @classmethod
    def all_names(cls):
        """The names of all rules, in the order of the table."""
        return NAMES

    @property
    def name(self):
        """Its name."""
        return self._name

    def fits(self, schema, plan, path):
        """Whether it fits at a path of a plan; it does not at any value that is no path."""
        return made_in(schema, plan, self._name, path) is not None

    def laid(self, schema, plan, path):
        """The plan that comes if it is laid at a path."""
        made = made_in(schema, plan, self._name, path)
        if made is None:
            raise NoRule(self._name, path)
        return plan.put(path, made)

    def places(self, schema, plan):
        """The paths at which it fits, by walk."""
        for spot in spots_in(schema, plan):
            if made_at(spot, self._name) is not None:
                yield spot.path

    def __eq__(self, other):
        return isinstance(other, Rule) and self._name == other._name


def all_places(schema, plan):
    """The steps (name, path) that fit: by walk, at each place by the table."""
    for spot in spots_in(schema, plan):
        for name in NAMES:
            if made_at(spot, name) is not None:
                yield (name, spot.path)
