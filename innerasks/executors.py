"""Ways of running joins, and what they cost [60 to 62]."""

from innerasks.errors import BadWay, NoPlace, NotFlat
from innerasks.matching import rows_of_sides
from innerasks.meeting import Sides, links_in
from innerasks.pairplans import Depend, Join
from innerasks.plans import Filter
from innerasks.running import World, checked, in_its_order, rows_over, seen_in

NESTED = "nested"
HASHED = "hashed"


def links(join):
    """The links of a join: a list of tuples (sign, column of left, column of right)."""
    return links_in(join)


class Course:
    """A run of a flat plan: the rows of each node, and what each join costs, by paths."""

    def __init__(self, world, ways):
        self.world = world
        self.ways = ways
        self.found = {}
        self.costs = {}

    def run_at(self, path, plan):
        """Runs a node, its parts first; gives its rows."""
        sides = [self.run_at(path + (index,), part) for index, part in enumerate(plan.parts)]
        if isinstance(plan, Join):
            rows = self.run_join(path, plan, sides)
        else:
            rows = rows_over(self.world, plan, sides, {})
        self.found[path] = rows
        return rows

    def run_join(self, path, plan, sides):
        """Runs a join in its way."""
        left, right = sides
        steps, indexes = looks(plan, self.ways.get(path, NESTED), left, right)
        self.costs[path] = (steps, sum([len(listed) for listed in indexes]))
        pairs = [(row, right, listed) for row, listed in zip(left, indexes)]
        return rows_of_sides(plan, seen_in(self.world, plan, {}), pairs, right)

    def count_of(self, path, plan):
        """The count of a node: (read, steps, looked, made)."""
        read = sum([len(self.found[path + (index,)]) for index in range(len(plan.parts))])
        steps, looked = self.costs.get(path, (0, read if isinstance(plan, Filter) else 0))
        return (read, steps, looked, len(self.found[path]))


def looks(plan, way, left, right):
    """The steps of a join, and for each row of left the indexes of the rows of right with which it is looked at."""
    if way == NESTED:
        return 0, [list(range(len(right))) for _ in left]
    sides = Sides(plan, left, right)
    return (sides.steps_hashed() if way == HASHED else sides.steps_merged()), sides.indexes_met()


def ways_of(join):
    """The ways in which a join can run."""
    if join.kind == "mark" or len(links_in(join)) == 0:
        return (NESTED,)
    return Execution.WAYS


def joins_in(plan):
    """The paths of all joins of a plan, and the joins."""
    return [(path, node) for path, node in plan.walk() if isinstance(node, Join)]


def world_of(database, plan, params):
    """What a flat plan runs in."""
    for path, node in joins_in(plan):
        if isinstance(node, Depend):
            raise NotFlat(path)
    return World(database, checked(database.schema, plan, params))


def check_ways(plan, ways):
    """All keys must be paths of joins, and each of these must be able to run in its way."""
    for path in ways:
        if not isinstance(plan.at(path), Join):
            raise NoPlace(path)
    for path, node in joins_in(plan):
        if path in ways and ways[path] not in ways_of(node):
            raise BadWay(path)


def best_ways(database, plan, *, params=None):
    """The way with the least work for each join, by its path."""
    world = world_of(database, plan, params)
    joins = joins_in(plan)
    course = Course(world, {path: ways_of(node)[-1] for path, node in joins})
    course.run_at((), plan)
    found = {}
    for path, node in joins:
        left = course.found[path + (0,)]
        right = course.found[path + (1,)]
        works = [work_of(node, way, left, right) for way in ways_of(node)]
        found[path] = ways_of(node)[works.index(min(works))]
    return found


def work_of(join, way, left, right):
    """The steps and the pairs of a join in a way."""
    steps, indexes = looks(join, way, left, right)
    return steps + sum([len(listed) for listed in indexes])


class Execution:
    """A run of a flat plan, each of its joins in a way of its own."""

    WAYS = ("nested", "hashed", "merged")

    def __init__(self, database, plan, *, ways=None, params=None):
        world = world_of(database, plan, params)
        told = {} if ways is None else ways
        check_ways(plan, told)
        course = Course(world, told)
        self._rows = in_its_order(plan, course.run_at((), plan))
        self._counts = {path: course.count_of(path, node) for path, node in plan.walk()}
        self._work = sum([read + steps + looked for read, steps, looked, _ in self._counts.values()])

    @property
    def rows(self):
        """The rows of the answer."""
        return list(self._rows)

    @property
    def counts(self):
        """A dict from all paths to (read, steps, looked, made)."""
        return {path: count for path, count in self._counts.items()}

    @property
    def work(self):
        """The sum of all that is read, stepped and looked at."""
        return self._work
