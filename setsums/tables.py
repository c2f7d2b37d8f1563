"""Tables: a table of N names is a list of 2 ** N whole numbers, that at place S for the set S."""

from setsums.checks import check_count, check_set, check_table, check_two_tables


def names_of(table):
    """Tell how many names a table has."""
    check_table(table)
    return len(table).bit_length() - 1


def blank(many):
    """Tell a table of so many names, of noughts."""
    check_count(many)
    return [0] * (1 << many)


def lone(many, one):
    """Tell a table of so many names, of noughts but for 1 at a set."""
    check_count(many)
    check_set(one, many)
    table = blank(many)
    table[one] = 1
    return table


def added(one, other):
    """Tell the table of the sums of two tables' numbers, place by place."""
    check_two_tables(one, other)
    return [left + right for left, right in zip(one, other)]


def multiplied(one, other):
    """Tell the table of the products of two tables' numbers, place by place."""
    check_two_tables(one, other)
    return [left * right for left, right in zip(one, other)]


def contrary(table):
    """Tell the table that has for each set the number of the set of all other names."""
    check_table(table)
    # The set of all other names is as far from the table's end as the set from its start.
    return table[::-1]
