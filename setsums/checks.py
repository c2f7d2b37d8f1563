"""What may be handed in, and which refusal is due for what may not."""

# No message shows the thing that is refused: to write it out may itself
# fail, for a very large number or for an object of a caller's own class.

from setsums.errors import BadCount, BadName, BadNumber, BadOrder, BadSet, BadTable, Unlike

MOST_NAMES = 10
MOST_SETS = 40
MOST_PLACES = 20


def is_whole(thing):
    """Tell whether a thing is a whole number."""
    # To Python True and False are ints too; here they are no numbers.
    return isinstance(thing, int) and not isinstance(thing, bool)


def is_whole_below(thing, end):
    """Tell whether a thing is a whole number from 0 up to, but not including, the end."""
    return is_whole(thing) and 0 <= thing < end


def is_table_length(length):
    """Tell whether a table may have so many numbers."""
    is_power_of_two = length > 0 and length & (length - 1) == 0
    return is_power_of_two and length <= 1 << MOST_NAMES


def check_count(many):
    """Refuse what is no number of names."""
    if not is_whole_below(many, MOST_NAMES + 1):
        raise BadCount("how many names there are is a whole number from 0 to 10")


def check_set(one, many):
    """Refuse what is no set of so many names."""
    if not is_whole_below(one, 1 << many):
        raise BadSet("a set of N names is a whole number from 0 to 2 ** N - 1")


def check_sets(sets, many):
    """Refuse what is no list of sets of so many names."""
    if not isinstance(sets, list) or len(sets) > MOST_SETS:
        raise BadSet("the sets come in a list of at most 40")
    for one in sets:
        check_set(one, many)


def check_name(name, many):
    """Refuse what is none of so many names."""
    if not is_whole_below(name, many):
        raise BadName("a name of N is a whole number from 0 to N - 1")


def check_order(order, many):
    """Refuse what is no list of all of so many names, each once."""
    if not isinstance(order, list) or len(order) != many:
        raise BadOrder("an order is a list of all names")
    for name in order:
        if not is_whole_below(name, many):
            raise BadOrder("an order has names of the table only")
    if sorted(order) != list(range(many)):
        raise BadOrder("an order has each name once")


def check_number(number):
    """Refuse what is no whole number."""
    if not is_whole(number):
        raise BadNumber("a number that is added is a whole number")


def check_long(long):
    """Refuse what is no number of places that a row may have."""
    if not is_whole_below(long, MOST_PLACES + 1):
        raise BadNumber("how many places a row has is a whole number from 0 to 20")


def check_table(table):
    """Refuse what is no table."""
    # The length is looked at first: a list that is far too long is not gone through.
    if not isinstance(table, list) or not is_table_length(len(table)):
        raise BadTable("a table is a list of 1, 2, 4, 8 and so on up to 1024 numbers")
    for number in table:
        if not is_whole(number):
            raise BadTable("a table has whole numbers only")


def check_two_tables(one, other):
    """Refuse what are no two tables of alike many names."""
    check_table(one)
    check_table(other)
    if len(one) != len(other):
        raise Unlike("the two tables have unlike many names")


def check_ranks(tables):
    """Refuse what is no list of N + 1 tables of N names."""
    # There are ten names at most, so no list of more than eleven tables is one.
    if not isinstance(tables, list) or not 1 <= len(tables) <= MOST_NAMES + 1:
        raise BadTable("the tables come in a list, for N names N + 1 of them")
    for table in tables:
        check_table(table)
        if len(table) != 1 << (len(tables) - 1):
            raise BadTable("each of N + 1 tables has N names")
