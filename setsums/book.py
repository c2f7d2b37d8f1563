"""A book: a table whose numbers change, and the changes that can be taken back."""

from setsums.checks import check_name, check_number, check_set
from setsums.errors import NothingDone
from setsums.names import reordered
from setsums.sets import parts
from setsums.tables import blank

PUT = 0
SWAP = 1


class Book:
    """A table of so many names, and what was done to it."""

    def __init__(self, many):
        self._numbers = blank(many)
        self._many = many
        # Each put and swap that stands, the last one at the end: its kind, and what was handed in.
        self._done = []

    def put(self, one, number):
        """Add a number to that of a set."""
        check_set(one, self._many)
        check_number(number)
        self._numbers[one] += number
        self._done.append((PUT, one, number))

    def swap(self, name, other):
        """Exchange two names in all sets."""
        check_name(name, self._many)
        check_name(other, self._many)
        self._exchange(name, other)
        self._done.append((SWAP, name, other))

    def undo(self):
        """Take back the last put or swap that stands."""
        if len(self._done) == 0:
            raise NothingDone("there is no put and no swap to take back")
        kind, first, second = self._done.pop()
        if kind == PUT:
            self._numbers[first] -= second
        else:
            self._exchange(first, second)

    def value(self, one):
        """Tell the number of a set."""
        check_set(one, self._many)
        return self._numbers[one]

    def under(self, one):
        """Tell the sum of the numbers of all parts of a set."""
        check_set(one, self._many)
        return sum([self._numbers[part] for part in parts(one)])

    def over(self, one):
        """Tell the sum of the numbers of all sets of which a set is a part."""
        check_set(one, self._many)
        return sum([number for other, number in enumerate(self._numbers) if one & other == one])

    def table(self):
        """Tell the numbers of all sets."""
        return list(self._numbers)

    def many_done(self):
        """Tell how many puts and swaps stand."""
        return len(self._done)

    def _exchange(self, name, other):
        """Exchange two names in all sets; done twice it changes nothing."""
        order = list(range(self._many))
        order[name] = other
        order[other] = name
        self._numbers = reordered(self._numbers, order)
