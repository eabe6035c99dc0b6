"""Facts about plans [50, 51]."""

from innerasks.deriving import Marks, derived
from innerasks.errors import InvalidCount, NoColumn
from innerasks.joinfacts import depending, has_one_match
from innerasks.known import reached
from innerasks.plans import Filter
from innerasks.scans import check_scans
from innerasks.values import is_whole

MOST_COLUMNS = 3


def facts(schema, plan):
    """The facts about a plan over the tables of a schema."""
    return Facts(schema, plan)


def has_single_match(schema, join):
    """Whether for each row of left a join has one row of right at most."""
    check_scans(schema, join)
    marks = Marks()
    left = derived(schema, join.left, marks)
    right = derived(schema, join.right, marks)
    return has_one_match(join, left, depending(join, right))


def choices(columns, many):
    """All tuples of so many of the columns, each in their order."""
    found = [()]
    for _ in range(many):
        found = [choice + (column,) for choice in found for column in columns
                 if len(choice) == 0 or column > choice[-1]]
    return found


class Facts:
    """What holds for a plan on every database that keeps the schema."""

    def __init__(self, schema, plan):
        check_scans(schema, plan)
        self._schema = schema
        self._plan = plan
        self._known = derived(schema, plan, Marks())
        self._never_null = tuple([column for column in sorted(plan.columns) if column in self._known.never])

    @property
    def schema(self):
        """The schema."""
        return self._schema

    @property
    def plan(self):
        """The plan."""
        return self._plan

    @property
    def never_null(self):
        """The columns that are never null, or never unknown, ascending."""
        return self._never_null

    @property
    def most(self):
        """How many rows there are at most; None if nothing is known."""
        return self._known.limit

    @property
    def is_quiet(self):
        """Whether the answer is never Several."""
        return self._known.quiet

    def follows(self, columns):
        """The columns that follow from some columns, ascending."""
        found = self.found_from(columns)
        return tuple([column for column in sorted(self._plan.columns) if column in found])

    def is_key(self, columns):
        """Whether no two rows have the same values in all of some columns."""
        found = self.found_from(columns)
        return all([mark in found for mark in self._known.marks])

    def found_from(self, columns):
        """A dict of all that follows from some columns of the plan."""
        for column in columns:
            if not is_whole(column) or column not in self._plan.columns:
                raise NoColumn(column)
        return reached(self._known, columns)

    def least_keys(self, *, most=2):
        """The keys with at most so many columns that have no other key in them, by length, then ascending."""
        if not is_whole(most) or not 0 <= most <= MOST_COLUMNS:
            raise InvalidCount(most)
        found = []
        for many in range(most + 1):
            for choice in choices(sorted(self._plan.columns), many):
                has_other = any([all([column in choice for column in key]) for key in found])
                if not has_other and self.is_key(choice):
                    found.append(choice)
                    yield choice

    def behind(self, condition):
        """The facts about the Filter of the plan with a condition."""
        return Facts(self._schema, Filter(self._plan, condition))

    def __eq__(self, other):
        return isinstance(other, Facts) and self._schema == other._schema and self._plan == other._plan
