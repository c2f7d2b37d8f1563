"""Two tables put together: sums over pairs of sets, a number of the one times a number of the other."""

from setsums.checks import check_two_tables
from setsums.sets import parts
from setsums.sums import above, below, from_above, from_below, from_signed, signed
from setsums.tables import multiplied

# Both sets of a pair are parts of a set just where both together are one.
# So the sums below, multiplied, are the sums below of what joined tells.
# With the sums above and the signed ones it is alike, for met and crossed.


def joined(one, other):
    """Tell for each set the sum over the pairs of which the names of both together are the set."""
    check_two_tables(one, other)
    return from_below(multiplied(below(one), below(other)))


def met(one, other):
    """Tell for each set the sum over the pairs of which the names that both have are the set."""
    check_two_tables(one, other)
    return from_above(multiplied(above(one), above(other)))


def apart(one, other):
    """Tell for each set the sum over the pairs that share no name and are the set together."""
    check_two_tables(one, other)
    return [apart_at(one, other, whole) for whole in range(len(one))]


def crossed(one, other):
    """Tell for each set the sum over the pairs of which the names that just one has are the set."""
    check_two_tables(one, other)
    return from_signed(multiplied(signed(one), signed(other)))


def apart_at(one, other, whole):
    """Tell the sum over the pairs that share no name and are the whole together."""
    return sum([one[part] * other[whole ^ part] for part in parts(whole)])
