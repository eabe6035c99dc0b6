"""A supply of numbers of columns."""


class Supply:
    """Gives numbers that are not taken, from 1 upwards."""

    def __init__(self, taken=()):
        self.taken = {number: True for number in taken}
        self.last = 0

    def fresh(self):
        """A number that was not taken."""
        self.last += 1
        while self.last in self.taken:
            self.last += 1
        return self.last

    def several(self, many):
        """So many numbers that were not taken."""
        return tuple([self.fresh() for _ in range(many)])
