"""Sums over the parts of each set, over the sets round it, and signed over all sets; and the ways back."""

from setsums.checks import check_table
from setsums.errors import BadTable


def below(table):
    """Tell for each set the sum of the numbers of all its parts."""
    return name_by_name(table, lambda without, holding: (without, without + holding))


def above(table):
    """Tell for each set the sum of the numbers of all sets of which it is a part."""
    return name_by_name(table, lambda without, holding: (without + holding, holding))


def signed(table):
    """Tell for each set the sum of all numbers, those with an odd number of names in common subtracted."""
    return name_by_name(table, lambda without, holding: (without + holding, without - holding))


def from_below(table):
    """Tell the table of which these are the sums over the parts."""
    return name_by_name(table, lambda without, holding: (without, holding - without))


def from_above(table):
    """Tell the table of which these are the sums over the sets round each set."""
    return name_by_name(table, lambda without, holding: (without - holding, holding))


def from_signed(table):
    """Tell the table of which these are the signed sums."""
    # The signed sums of signed sums are the numbers themselves, each times as many as there are sets.
    multiples = signed(table)
    for number in multiples:
        if number % len(table) != 0:
            raise BadTable("these are the signed sums of no table of whole numbers")
    return [number // len(table) for number in multiples]


def name_by_name(table, step):
    """Tell the table that comes of a step taken for each name, one name behind another.

    For each two sets that differ by just this name, the step is handed the
    numbers of the set without it and of the set holding it, and returns the
    two numbers that take their places.
    """
    check_table(table)
    told = list(table)
    bit = 1
    while bit < len(table):
        for one in range(len(table)):
            if one & bit == 0:
                without, holding = step(told[one], told[one | bit])
                told[one] = without
                told[one | bit] = holding
        bit *= 2
    return told
