"""Sets of the names 0 to 9, each a whole number whose bit K stands for the name K."""

from setsums.checks import MOST_NAMES, check_name, check_set
from setsums.errors import BadName


def size_of(one):
    """Tell how many names a set has."""
    return len(members(one))


def is_part(one, other):
    """Tell whether the one set has no names but the other's."""
    check_set(one, MOST_NAMES)
    check_set(other, MOST_NAMES)
    return one & other == one


def parts(one):
    """Tell all parts of a set, rising."""
    check_set(one, MOST_NAMES)
    return [part for part in range(one + 1) if part & one == part]


def members(one):
    """Tell the names of a set, rising."""
    check_set(one, MOST_NAMES)
    return [name for name in range(MOST_NAMES) if one >> name & 1]


def set_of(names):
    """Tell the set of a list of unlike names, in any order."""
    if not isinstance(names, list):
        raise BadName("the names come in a list")
    one = 0
    for name in names:
        check_name(name, MOST_NAMES)
        if one >> name & 1:
            raise BadName("a name stands in the list twice")
        one |= 1 << name
    return one
