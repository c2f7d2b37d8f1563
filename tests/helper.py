"""What several test files need: things that are refused, and a test case that looks closely."""

import copy
import unittest

from setsums.errors import SetError

NO_COUNTS = [-1, -2, 11, 12, 1024, 10 ** 30, -(10 ** 30), 10 ** 3999]


class Thing:
    """An object of a class that the program does not know."""


class Likewise:
    """An object that says it is alike with, and may be used as, the number 1."""

    def __eq__(self, other):
        return True

    def __hash__(self):
        return 1

    def __index__(self):
        return 1

    def __int__(self):
        return 1


class Silent:
    """An object that cannot be written out."""

    def __repr__(self):
        raise RuntimeError("not to be written out")

    __str__ = __repr__


def no_wholes():
    """Things that are no whole numbers."""
    return [
        None, True, False, "", "1", b"1", 1.0, 0.0, 1j,
        (), (1,), [], [1], {}, {1: 1}, set(), {1}, range(2),
        int, len, Thing(), Likewise(), Silent(),
    ]


def no_counts():
    """Things that are no numbers of names."""
    return NO_COUNTS + no_wholes()


def no_sets(many):
    """Things that are no sets of so many names."""
    wrong = [-1, -2, -(2 ** many), 2 ** many, 2 ** many + 1, 2 ** (many + 1), 10 ** 30, -(10 ** 30), 10 ** 3999]
    return wrong + no_wholes()


def no_names(many):
    """Things that are none of so many names."""
    return [-1, -2, -many - 1, many, many + 1, 2 ** many + many, 10 ** 30, -(10 ** 30), 10 ** 3999] + no_wholes()


def no_lists():
    """Things that are no lists."""
    return [
        None, True, False, 0, 1, -1, 10 ** 30, "", "1", "12", b"12", 1.0,
        (), (1,), (1, 2), {}, {0: 1}, {0: 1, 1: 2}, set(), {1, 2}, range(2),
        iter([1, 2]), list, len, Thing(), Likewise(), Silent(),
    ]


def no_tables():
    """Things that are no tables: no lists, lists of a wrong length, lists with a wrong thing."""
    wrong_lengths = [[7] * length for length in (0, 3, 5, 6, 7, 9, 12, 1000, 1023, 1025, 2047, 2048, 4096)]
    wrong_things = [[thing] for thing in no_wholes()]
    wrong_places = []
    for many in range(5):
        for place in range(2 ** many):
            for thing in (None, True, False, "1", 1.0, [1], Likewise()):
                table = list(range(2 ** many))
                table[place] = thing
                wrong_places.append(table)
    for place in (0, 511, 512, 1023):
        table = list(range(1024))
        table[place] = True
        wrong_places.append(table)
    return no_lists() + wrong_lengths + wrong_things + wrong_places


def some_tables():
    """Tables of none to ten names, with numbers below nought and very large ones."""
    tables = [[0], [-3], [10 ** 3999], [-(10 ** 3999)], [2, 1], [-(10 ** 50), 10 ** 50]]
    for many in range(11):
        places = range(2 ** many)
        tables.append([0 for _ in places])
        tables.append([place * place - 7 * place for place in places])
        tables.append([(-1) ** place * (10 ** 40 + place) for place in places])
    return tables


def names_in(one):
    """The names of a set, read from its binary figures."""
    figures = f"{one:b}"[::-1]
    return [name for name, figure in enumerate(figures) if figure == "1"]


def set_with(names):
    """The set of these names; a name that comes twice counts once."""
    return sum(2 ** name for name in set(names))


def told_otherwise(table, order):
    """The table of which name K is the name order[K] of the one told, looked up name by name."""
    return [table[set_with(order[name] for name in names_in(one))] for one in range(len(table))]


def drawn_order(source, many):
    """An order of so many names, drawn from a random.Random."""
    return source.sample(range(many), many)


def drawn_table(source, many, most=9):
    """A table of so many names, of numbers drawn from a random.Random: none farther from nought than the most."""
    return [source.randint(-most, most) for _ in range(2 ** many)]


def drawn_tables(source, many):
    """Tables of so many names: of small numbers, of large ones, of few that are not nought."""
    small = drawn_table(source, many)
    large = drawn_table(source, many, 10 ** 60)
    few = [0] * 2 ** many
    for _ in range(3):
        few[source.randrange(2 ** many)] = source.choice((-1, 1, 10 ** 30))
    return [small, large, few]


class SetsumsTest(unittest.TestCase):
    def assert_refused(self, refusal, call, *handed):
        """The call is refused with just this refusal, and the lists handed in stay as they were."""
        before = [copy.copy(thing) if isinstance(thing, list) else thing for thing in handed]
        with self.assertRaises(SetError) as caught:
            call(*handed)
        self.assertIs(type(caught.exception), refusal)
        for thing, was in zip(handed, before):
            if isinstance(thing, list):
                self.assert_same_things(thing, was)

    def assert_same_things(self, told, wanted):
        self.assertEqual(len(told), len(wanted))
        for one, other in zip(told, wanted):
            self.assertIs(one, other)

    def assert_number(self, told, wanted):
        """The very number, of Python's own kind int."""
        self.assertIs(type(told), int)
        self.assertTrue(told == wanted, "another number")

    def assert_list(self, told, wanted):
        """A list of just these whole numbers."""
        self.assertIs(type(told), list)
        self.assertEqual(len(told), len(wanted))
        for one, other in zip(told, wanted):
            self.assert_number(one, other)

    def assert_own(self, call, wanted, *handed, between=None):
        """The list told is the asker's own, and what was handed in stays as it was.

        What is done to the list told, or later to the lists handed in, changes nothing;
        neither does what is asked in between, of other things handed in.
        """
        before = [list(thing) if isinstance(thing, list) else thing for thing in handed]
        told = call(*handed)
        self.assert_list(told, wanted)
        if between is not None:
            self.assertIsNot(call(*between), told)
            self.assert_list(told, wanted)
        for thing, was in zip(handed, before):
            self.assertIsNot(told, thing)
            if isinstance(thing, list):
                self.assert_same_things(thing, was)
        told.append(5)
        told[0] = -99
        for thing, was in zip(handed, before):
            if isinstance(thing, list):
                self.assert_same_things(thing, was)
        if between is not None:
            call(*between)
        again = call(*handed)
        self.assertIsNot(again, told)
        self.assert_list(again, wanted)
        for thing in handed:
            if isinstance(thing, list):
                thing.clear()
        self.assert_list(again, wanted)
        self.assert_list(call(*before), wanted)
