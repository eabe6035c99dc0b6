"""The pairs of rows at which joins look, by their links [60, 61]."""

from innerasks.giving import parts_within
from innerasks.values import row_place


def links_in(join):
    """Tuples (sign, column of left, column of right) for the parts of the condition that compare such columns."""
    found = []
    for part in parts_within(join.condition):
        if part[0] in ("=", "is") and part[1][0] == "column" and part[2][0] == "column":
            one, other = part[1][1], part[2][1]
            if one in join.left.columns and other in join.right.columns:
                found.append((part[0], one, other))
            if other in join.left.columns and one in join.right.columns:
                found.append((part[0], other, one))
    return found


class Sides:
    """The rows of both sides of a join, by their values in its links."""

    def __init__(self, join, left, right):
        linked = links_in(join)
        self.signs = [sign for sign, _, _ in linked]
        self.lefts = self.worths_of_rows(left, [join.left.columns.index(column) for _, column, _ in linked])
        self.rights = self.worths_of_rows(right, [join.right.columns.index(column) for _, _, column in linked])

    def worths_of_rows(self, rows, places):
        """For each row its values in the links; None if it has a null in a link with `=`, and so meets no row."""
        found = []
        for row in rows:
            worths = tuple([row[place] for place in places])
            is_out = any([sign == "=" and value is None for sign, value in zip(self.signs, worths)])
            found.append(None if is_out else worths)
        return found

    def indexes_met(self):
        """For each row of left the indexes of the rows of right that meet it in all links."""
        indexes = {}
        for index, worths in enumerate(self.rights):
            if worths is not None:
                indexes.setdefault(worths, []).append(index)
        return [[] if worths is None else indexes.get(worths, []) for worths in self.lefts]

    def steps_hashed(self):
        """One for each row that may meet another."""
        return len([worths for worths in self.lefts + self.rights if worths is not None])

    def steps_merged(self):
        """One for each comparison of a lot of left with a lot of right."""
        ones = lots_in_order(self.lefts)
        others = lots_in_order(self.rights)
        steps = 0
        at = 0
        at_other = 0
        while at < len(ones) and at_other < len(others):
            steps += 1
            place = row_place(ones[at])
            place_too = row_place(others[at_other])
            if place <= place_too:
                at += 1
            if place_too <= place:
                at_other += 1
        return steps


def lots_in_order(listed):
    """The different values in the links, in order."""
    lots = {worths: True for worths in listed if worths is not None}
    return sorted(lots, key=row_place)
