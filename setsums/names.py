"""The names of a table: told in another order, one more put to them, one parted from them."""

from setsums.checks import check_count, check_name, check_order, check_two_tables
from setsums.tables import names_of


def reordered(table, order):
    """Tell the table whose name K is the name order[K] of the one handed in."""
    check_order(order, names_of(table))
    # For each set of the names gone through so far, in the new order: the place of its number in the table.
    places = [0]
    for name in order:
        places = places + [place | 1 << name for place in places]
    return [table[place] for place in places]


def with_name(without, holding, name):
    """Tell the table of one more name: without for the sets that do not have it, holding for those that do."""
    check_two_tables(without, holding)
    many = names_of(without) + 1
    check_count(many)
    check_name(name, many)
    # Sets that differ by names below the new one alone stand side by side, in blocks of this length.
    block = 1 << name
    told = []
    for start in range(0, len(without), block):
        told.extend(without[start:start + block])
        told.extend(holding[start:start + block])
    return told


def parted(table, name):
    """Tell the pair of tables of which the table is put together: for the sets without the name, and with it."""
    check_name(name, names_of(table))
    without = [number for one, number in enumerate(table) if one >> name & 1 == 0]
    holding = [number for one, number in enumerate(table) if one >> name & 1 == 1]
    return without, holding
