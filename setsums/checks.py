"""What may be handed in, and which refusal is due for what may not."""

# No message shows the thing that is refused: to write it out may itself
# fail, for a very large number or for an object of a caller's own class.

from setsums.errors import BadCount, BadSet, BadTable, Unlike

MOST_NAMES = 10


def is_whole(thing):
    """Tell whether a thing is a whole number."""
    # To Python True and False are ints too; here they are no numbers.
    return isinstance(thing, int) and not isinstance(thing, bool)


def is_whole_below(thing, end):
    """Tell whether a thing is a whole number from 0 up to, but not including, the end."""
    return is_whole(thing) and 0 <= thing < end


def is_table_length(length):
    """Tell whether a table may have so many numbers."""
    is_power_of_two = length > 0 and length & (length - 1) == 0
    return is_power_of_two and length <= 1 << MOST_NAMES


def check_count(many):
    """Refuse what is no number of names."""
    if not is_whole_below(many, MOST_NAMES + 1):
        raise BadCount("how many names there are is a whole number from 0 to 10")


def check_set(one, many):
    """Refuse what is no set of so many names."""
    if not is_whole_below(one, 1 << many):
        raise BadSet("a set of N names is a whole number from 0 to 2 ** N - 1")


def check_table(table):
    """Refuse what is no table."""
    # The length is looked at first: a list that is far too long is not gone through.
    if not isinstance(table, list) or not is_table_length(len(table)):
        raise BadTable("a table is a list of 1, 2, 4, 8 and so on up to 1024 numbers")
    for number in table:
        if not is_whole(number):
            raise BadTable("a table has whole numbers only")


def check_two_tables(one, other):
    """Refuse what are no two tables of alike many names."""
    check_table(one)
    check_table(other)
    if len(one) != len(other):
        raise Unlike("the two tables have unlike many names")


def check_ranks(tables):
    """Refuse what is no list of N + 1 tables of N names."""
    # There are ten names at most, so no list of more than eleven tables is one.
    if not isinstance(tables, list) or not 1 <= len(tables) <= MOST_NAMES + 1:
        raise BadTable("the tables come in a list, for N names N + 1 of them")
    for table in tables:
        check_table(table)
        if len(table) != 1 << (len(tables) - 1):
            raise BadTable("each of N + 1 tables has N names")
