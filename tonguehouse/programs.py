"""Running programs, which have a list of what they show and take what changed of it."""

from tonguehouse.errors import Behind, NoName
from tonguehouse.kinds import is_number
from tonguehouse.lists import led
from tonguehouse.sayings import said


class Program:
    """Has the rows of a list, and the tongues in which they are said."""

    def __init__(self, rows, tongues):
        self.rows = tuple(rows)
        self.tongues = dict(tongues)
        self.number = 0

    def its_number(self):
        """How many deltas it took."""
        return self.number

    def take_delta(self, number, delta):
        """Take the delta that leads on from its list of this number."""
        if not is_number(number, self.number, self.number):
            raise Behind(self.number)
        self.rows = led(self.rows, delta)
        self.number += 1

    def its_rows(self):
        """Its list."""
        return self.rows

    def show_text(self, name, given):
        """What the row of this name says."""
        for row_name, tongue, number, pieces in self.rows:
            if row_name == name:
                return said(self.tongues[tongue], pieces, given)
        raise NoName(name)

    def __len__(self):
        return len(self.rows)

    def __eq__(self, other):
        return isinstance(other, Program) and self.rows == other.rows and self.number == other.number
