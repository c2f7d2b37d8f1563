"""setsums/tables.py: points [1] to [3] as far as they speak of tables."""

import unittest

from helper import NO_COUNTS, SetsumsTest, no_tables, no_wholes, some_tables
from setsums.errors import BadCount, BadSet, BadTable, Unlike
from setsums.tables import added, blank, contrary, lone, multiplied, names_of


class NamesOfTest(SetsumsTest):
    def test_none_to_ten_names(self):
        for many in range(11):
            self.assert_number(names_of([3] * 2 ** many), many)

    def test_any_numbers(self):
        for table in some_tables():
            was = list(table)
            self.assertEqual(2 ** names_of(table), len(table))
            self.assert_same_things(table, was)

    def test_refused(self):
        for thing in no_tables():
            self.assert_refused(BadTable, names_of, thing)


class BlankTest(SetsumsTest):
    def test_none_to_ten_names(self):
        self.assert_list(blank(0), [0])
        self.assert_list(blank(1), [0, 0])
        self.assert_list(blank(2), [0, 0, 0, 0])
        for many in range(11):
            self.assert_list(blank(many), [0 for _ in range(2 ** many)])

    def test_what_is_told_is_the_askers_own(self):
        for many in (0, 3, 10):
            self.assert_own(blank, [0] * 2 ** many, many)

    def test_refused(self):
        for thing in NO_COUNTS + no_wholes():
            self.assert_refused(BadCount, blank, thing)


class LoneTest(SetsumsTest):
    def test_ordinary_sets(self):
        self.assert_list(lone(1, 1), [0, 1])
        self.assert_list(lone(2, 1), [0, 1, 0, 0])
        self.assert_list(lone(3, 5), [0, 0, 0, 0, 0, 1, 0, 0])

    def test_edges(self):
        self.assert_list(lone(0, 0), [1])
        self.assert_list(lone(10, 0), [1] + [0] * 1023)
        self.assert_list(lone(10, 1023), [0] * 1023 + [1])

    def test_each_set_of_none_to_six_names(self):
        for many in range(7):
            for one in range(2 ** many):
                self.assert_list(lone(many, one), [int(place == one) for place in range(2 ** many)])

    def test_what_is_told_is_the_askers_own(self):
        self.assert_own(lone, [1], 0, 0)
        self.assert_own(lone, [0, 0, 1, 0], 2, 2)

    def test_bad_counts(self):
        for thing in NO_COUNTS + no_wholes():
            self.assert_refused(BadCount, lone, thing, 0)

    def test_bad_sets_of_the_count(self):
        for many in range(11):
            self.assert_refused(BadSet, lone, many, -1)
            self.assert_refused(BadSet, lone, many, 2 ** many)
            self.assert_refused(BadSet, lone, many, 2 ** many + 1)
            self.assert_refused(BadSet, lone, many, -(2 ** many))
            self.assert_refused(BadSet, lone, many, 10 ** 3999)
            for thing in no_wholes():
                self.assert_refused(BadSet, lone, many, thing)

    def test_the_first_refusal_from_the_left(self):
        for thing in NO_COUNTS + no_wholes():
            for other in [-1, 1024, 10 ** 30] + no_wholes():
                self.assert_refused(BadCount, lone, thing, other)


class PairTest:
    """What added and multiplied have in common: two tables, put together place by place."""

    def test_any_numbers(self):
        for one in some_tables():
            for other in some_tables():
                if len(one) == len(other):
                    wanted = [self.pair(one[place], other[place]) for place in range(len(one))]
                    self.assert_list(self.call(one, other), wanted)

    def test_what_is_handed_in_stays_and_what_is_told_is_the_askers_own(self):
        for one in some_tables():
            other = [3 - place for place in range(len(one))]
            wanted = [self.pair(one[place], other[place]) for place in range(len(one))]
            self.assert_own(self.call, wanted, one, other)

    def test_a_new_list_where_it_is_alike_one_handed_in(self):
        for table in ([4], [4, -5, 6, 10 ** 40], list(range(1024))):
            same = [self.nothing_done] * len(table)
            self.assert_own(self.call, list(table), list(table), list(same))
            self.assert_own(self.call, list(table), list(same), list(table))

    def test_a_table_with_itself(self):
        table = [2, 0, -3, 10 ** 40]
        self.assert_list(self.call(table, table), [self.pair(number, number) for number in table])
        self.assertEqual(table, [2, 0, -3, 10 ** 40])

    def test_bad_tables(self):
        for thing in no_tables():
            self.assert_refused(BadTable, self.call, thing, [1, 2])
            self.assert_refused(BadTable, self.call, [1, 2], thing)
            self.assert_refused(BadTable, self.call, thing, [1] * 1024)
            self.assert_refused(BadTable, self.call, [1] * 1024, thing)
            if isinstance(thing, list) and thing:
                self.assert_refused(BadTable, self.call, thing, [1] * len(thing))
                self.assert_refused(BadTable, self.call, [1] * len(thing), thing)

    def test_two_bad_tables(self):
        for thing in no_tables():
            self.assert_refused(BadTable, self.call, thing, [])
            self.assert_refused(BadTable, self.call, [1, 2, 3], thing)
            self.assert_refused(BadTable, self.call, thing, thing)

    def test_unlike(self):
        for many in range(11):
            for other in range(11):
                if many != other:
                    self.assert_refused(Unlike, self.call, [1] * 2 ** many, [1] * 2 ** other)

    def test_unlike_stands_behind_both_tables(self):
        self.assert_refused(BadTable, self.call, [1], [1, True])
        self.assert_refused(BadTable, self.call, [None], [1, 1])
        self.assert_refused(BadTable, self.call, [1, 1], [1, 2, 3])
        self.assert_refused(BadTable, self.call, [1, 2, 3], [1, 1])


class AddedTest(PairTest, SetsumsTest):
    nothing_done = 0

    def call(self, one, other):
        return added(one, other)

    def pair(self, left, right):
        return left + right

    def test_ordinary_tables(self):
        self.assert_list(added([1], [2]), [3])
        self.assert_list(added([1, 2, 3, 4], [10, -20, 30, 0]), [11, -18, 33, 4])


class MultipliedTest(PairTest, SetsumsTest):
    nothing_done = 1

    def call(self, one, other):
        return multiplied(one, other)

    def pair(self, left, right):
        return left * right

    def test_ordinary_tables(self):
        self.assert_list(multiplied([3], [2]), [6])
        self.assert_list(multiplied([1, 2, 3, 4], [10, -20, 30, 0]), [10, -40, 90, 0])


class ContraryTest(SetsumsTest):
    def test_ordinary_tables(self):
        self.assert_list(contrary([1, 2]), [2, 1])
        self.assert_list(contrary([1, 2, 3, 4]), [4, 3, 2, 1])
        self.assert_list(contrary([0, 1, 2, 3, 4, 5, -6, 7]), [7, -6, 5, 4, 3, 2, 1, 0])

    def test_any_numbers(self):
        for table in some_tables():
            everything = len(table) - 1
            wanted = [table[everything ^ one] for one in range(len(table))]
            self.assert_list(contrary(table), wanted)
            self.assert_list(contrary(contrary(table)), table)

    def test_what_is_handed_in_stays_and_what_is_told_is_the_askers_own(self):
        for table in some_tables():
            self.assert_own(contrary, list(reversed(table)), table)

    def test_a_new_list_where_it_is_alike_the_one_handed_in(self):
        self.assert_own(contrary, [4], [4])
        self.assert_own(contrary, [4, 5, 5, 4], [4, 5, 5, 4])

    def test_refused(self):
        for thing in no_tables():
            self.assert_refused(BadTable, contrary, thing)


if __name__ == "__main__":
    unittest.main()
