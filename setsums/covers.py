"""Rows of places in a list of sets that cover: each of the names is in one of the sets at these places."""

from setsums.checks import check_count, check_long, check_sets
from setsums.errors import NoCover
from setsums.sums import below, from_below
from setsums.tables import blank, multiplied


def covers(many, sets, long):
    """Tell how many rows of so many places cover."""
    check_count(many)
    check_sets(sets, many)
    check_long(long)
    # A row's names are all in a set just where each of its places has a part of this set.
    # So for each set the rows within it are counted place by place; those that have just
    # its names are the table of which these counts are the sums below.
    choices = below(counted(many, sets))
    rows = [1] * len(choices)
    for _ in range(long):
        rows = multiplied(rows, choices)
    return from_below(rows)[-1]


def fewest(many, sets):
    """Tell the least number of places with which a row covers."""
    return len(least_cover(many, sets))


def least_cover(many, sets):
    """Tell the row that covers with the fewest places; of several that whose places are least, from the first on."""
    check_count(many)
    check_sets(sets, many)
    needed = places_needed(many, sets)
    if needed[0][0] > len(sets):
        raise NoCover("no row of these sets covers all names")
    row = []
    covered = 0
    for place, one in enumerate(sets):
        if 1 + needed[place + 1][covered | one] == needed[place][covered]:
            row.append(place)
            covered |= one
    return row


def counted(many, sets):
    """Tell the table that has for each set how often it stands in the list."""
    table = blank(many)
    for one in sets:
        table[one] += 1
    return table


def places_needed(many, sets):
    """Tell how few places cover the names that are left.

    At place P of the list told, and there at place S, stands how many places
    from P on it takes at least where the names of S are covered already;
    one more than there are sets where no places from there on do.
    """
    all_sets = range(1 << many)
    behind = [len(sets) + 1] * len(all_sets)
    behind[-1] = 0
    needed = [behind]
    for one in reversed(sets):
        behind = [min(behind[covered], 1 + behind[covered | one]) for covered in all_sets]
        needed.append(behind)
    needed.reverse()
    return needed
