"""setsums/sets.py: points [1] to [3] as far as they speak of sets."""

import itertools
import unittest

from helper import SetsumsTest, names_in, no_lists, no_wholes
from setsums.errors import BadName, BadSet
from setsums.sets import is_part, members, parts, set_of, size_of

ALL_TEN = 1023
NO_SETS = [-1, -2, -1023, -1024, 1024, 1025, 2047, 10 ** 30, -(10 ** 30), 10 ** 3999]


def parts_by_names(one):
    """All parts of a set, put together from its names."""
    names = names_in(one)
    found = []
    for size in range(len(names) + 1):
        for chosen in itertools.combinations(names, size):
            found.append(sum(2 ** name for name in chosen))
    return sorted(found)


class SizeTest(SetsumsTest):
    def test_ordinary_sets(self):
        for one, size in ((1, 1), (5, 2), (6, 2), (7, 3), (512, 1), (341, 5), (1022, 9)):
            self.assert_number(size_of(one), size)

    def test_edges(self):
        self.assert_number(size_of(0), 0)
        self.assert_number(size_of(ALL_TEN), 10)

    def test_each_set(self):
        for one in range(1024):
            self.assert_number(size_of(one), len(names_in(one)))

    def test_refused(self):
        for thing in NO_SETS + no_wholes():
            self.assert_refused(BadSet, size_of, thing)


class IsPartTest(SetsumsTest):
    def test_both_ways(self):
        self.assertIs(is_part(4, 5), True)
        self.assertIs(is_part(5, 4), False)
        self.assertIs(is_part(2, 5), False)
        self.assertIs(is_part(5, 2), False)
        self.assertIs(is_part(3, 6), False)
        self.assertIs(is_part(6, 3), False)

    def test_a_set_is_a_part_of_itself(self):
        for one in (0, 1, 5, 512, ALL_TEN):
            self.assertIs(is_part(one, one), True)

    def test_nothing_and_all_ten(self):
        for one in (1, 5, 512, ALL_TEN):
            self.assertIs(is_part(0, one), True)
            self.assertIs(is_part(one, 0), False)
        for one in (0, 1, 5, 1022):
            self.assertIs(is_part(one, ALL_TEN), True)
            self.assertIs(is_part(ALL_TEN, one), False)

    def test_each_pair_of_six_names(self):
        for one in range(64):
            for other in range(64):
                wanted = all(name in names_in(other) for name in names_in(one))
                self.assertIs(is_part(one, other), wanted)

    def test_refused(self):
        for thing in NO_SETS + no_wholes():
            self.assert_refused(BadSet, is_part, thing, 0)
            self.assert_refused(BadSet, is_part, thing, ALL_TEN)
            self.assert_refused(BadSet, is_part, 0, thing)
            self.assert_refused(BadSet, is_part, ALL_TEN, thing)
            self.assert_refused(BadSet, is_part, thing, -1)
            self.assert_refused(BadSet, is_part, 1024, thing)


class PartsTest(SetsumsTest):
    def test_ordinary_sets(self):
        self.assert_list(parts(1), [0, 1])
        self.assert_list(parts(5), [0, 1, 4, 5])
        self.assert_list(parts(7), [0, 1, 2, 3, 4, 5, 6, 7])

    def test_names_apart(self):
        self.assert_list(parts(512), [0, 512])
        self.assert_list(parts(0b1000010001), [0, 1, 16, 17, 512, 513, 528, 529])

    def test_edges(self):
        self.assert_list(parts(0), [0])
        self.assert_list(parts(ALL_TEN), list(range(1024)))

    def test_each_set_of_seven_names(self):
        for one in range(128):
            told = parts(one)
            self.assert_list(told, parts_by_names(one))
            self.assertEqual((told[0], told[-1]), (0, one))

    def test_what_is_told_is_the_askers_own(self):
        self.assert_own(parts, [0], 0)
        self.assert_own(parts, [0, 1, 4, 5], 5)

    def test_refused(self):
        for thing in NO_SETS + no_wholes():
            self.assert_refused(BadSet, parts, thing)


class MembersTest(SetsumsTest):
    def test_ordinary_sets(self):
        self.assert_list(members(1), [0])
        self.assert_list(members(5), [0, 2])
        self.assert_list(members(0b1000010001), [0, 4, 9])

    def test_edges(self):
        self.assert_list(members(0), [])
        self.assert_list(members(ALL_TEN), [0, 1, 2, 3, 4, 5, 6, 7, 8, 9])

    def test_each_set(self):
        for one in range(1024):
            self.assert_list(members(one), names_in(one))

    def test_what_is_told_is_the_askers_own(self):
        self.assert_own(members, [0, 2], 5)
        told = members(0)
        told.append(3)
        self.assert_list(members(0), [])

    def test_refused(self):
        for thing in NO_SETS + no_wholes():
            self.assert_refused(BadSet, members, thing)


class SetOfTest(SetsumsTest):
    def test_ordinary_lists(self):
        self.assert_number(set_of([0]), 1)
        self.assert_number(set_of([0, 2]), 5)
        self.assert_number(set_of([9]), 512)

    def test_edges(self):
        self.assert_number(set_of([]), 0)
        self.assert_number(set_of([0, 1, 2, 3, 4, 5, 6, 7, 8, 9]), ALL_TEN)

    def test_any_order(self):
        for names in itertools.permutations([1, 4, 0, 9]):
            self.assert_number(set_of(list(names)), 0b1000010011)
        self.assert_number(set_of([9, 8, 7, 6, 5, 4, 3, 2, 1, 0]), ALL_TEN)
        self.assert_number(set_of([4, 0, 9, 2, 7, 5, 1, 8, 3, 6]), ALL_TEN)

    def test_it_turns_members_back(self):
        for one in range(1024):
            self.assert_number(set_of(members(one)), one)

    def test_what_is_handed_in_stays(self):
        names = [4, 0, 9]
        self.assert_number(set_of(names), 0b1000010001)
        self.assertEqual(names, [4, 0, 9])
        names.append(1)
        self.assert_number(set_of([4, 0, 9]), 0b1000010001)
        self.assert_number(set_of(names), 0b1000010011)

    def test_a_name_twice(self):
        for names in ([0, 0], [3, 5, 3], [9, 1, 9], [1, 2, 2], [0, 1, 2, 3, 4, 5, 6, 7, 8, 9, 0], [7] * 1000):
            self.assert_refused(BadName, set_of, names)

    def test_no_names(self):
        for name in [-1, -10, 10, 11, 1024, 10 ** 30, -(10 ** 30), 10 ** 3999] + no_wholes():
            for names in ([name], [name, 0], [0, name], [2, name, 1], [5, 5, name]):
                self.assert_refused(BadName, set_of, names)

    def test_no_list(self):
        for thing in no_lists():
            self.assert_refused(BadName, set_of, thing)


if __name__ == "__main__":
    unittest.main()
