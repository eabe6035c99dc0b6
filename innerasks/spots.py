"""Places in plans at which rules are laid, and what is known of the nodes there [51]."""

from innerasks.deriving import Marks, derived_over
from innerasks.joinfacts import depending, has_one_match
from innerasks.known import reached
from innerasks.possible import Clues, truths_possible


class Lore:
    """What is known of the nodes of a plan, each derived once."""

    def __init__(self, schema, plan):
        self.base = schema
        self.whole = plan
        self.marks = Marks()
        self.derivations = {}

    def of_path(self, path):
        """What is known of the node at a path."""
        if path not in self.derivations:
            node = self.whole.at(path)
            parts = [self.of_path(path + (index,)) for index in range(len(node.parts))]
            self.derivations[path] = derived_over(self.base, node, parts, self.marks)
        return self.derivations[path]


class Spot:
    """A node of a plan, at a path; what stands below it is told by paths from here."""

    def __init__(self, lore, path, node):
        self.lore = lore
        self.path = path
        self.node = node

    def lore_of(self, below):
        """What is known of a node below."""
        return self.lore.of_path(self.path + below)

    def is_still(self, below):
        """Whether a node below is never Several."""
        return self.lore_of(below).quiet

    def has_key(self, below):
        """Whether all columns of a node below are a key."""
        known = self.lore_of(below)
        found = reached(known, self.node.at(below).columns)
        return all([mark in found for mark in known.marks])

    def has_one_fellow(self, below):
        """Whether the match of a join below is single."""
        join = self.node.at(below)
        right = depending(join, self.lore_of(below + (1,)))
        return has_one_match(join, self.lore_of(below + (0,)), right)

    def never_in(self, *places):
        """A dict of the columns that are never null in some nodes below."""
        never = {}
        for below in places:
            known = self.lore_of(below)
            never.update({column: True for column in self.node.at(below).columns if column in known.never})
        return never


def can_be(truth, condition, nulls, never):
    """Whether a truth is possible for a condition where some columns are null, and some never are."""
    return truth in truths_possible(Clues(nulls, never), condition)
