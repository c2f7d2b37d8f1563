"""Sums over the parts of each set, the parts of each size apart; and the way back."""

from setsums.checks import check_ranks
from setsums.sets import size_of
from setsums.sums import below, from_below
from setsums.tables import names_of


def ranked(table):
    """Tell for each size, 0 to all names, the table that has for each set the sum over its parts of this size."""
    many = names_of(table)
    return [below(only_of_size(table, size)) for size in range(many + 1)]


def from_ranked(tables):
    """Tell for each set what from_below tells for it of the table at the place of the set's size."""
    check_ranks(tables)
    numbers = [from_below(table) for table in tables]
    return [numbers[size_of(one)][one] for one in range(len(tables[0]))]


def only_of_size(table, size):
    """Tell the table with noughts for the sets of any other size."""
    return [number if size_of(one) == size else 0 for one, number in enumerate(table)]
