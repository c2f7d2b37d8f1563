"""setsums/sums.py: point [4], and points [1] and [3] as far as they speak of it."""

import functools
import itertools
import random
import unittest

from helper import SetsumsTest, drawn_table, drawn_tables, names_in, no_tables, some_tables
from setsums.errors import BadTable
from setsums.sums import above, below, from_above, from_below, from_signed, signed


def has_all(one, other):
    """Whether all names of the other set are names of the one, looked up name by name."""
    return all(name in one for name in other)


def counted_below(one, other):
    return 1 if has_all(one, other) else 0


def counted_above(one, other):
    return 1 if has_all(other, one) else 0


def counted_signed(one, other):
    in_common = [name for name in one if name in other]
    return -1 if len(in_common) in (1, 3, 5, 7, 9) else 1


@functools.lru_cache(maxsize=None)
def counted(count, many):
    """For each set the places of all sets that count once for it, and of those that count below nought."""
    names = [names_in(one) for one in range(2 ** many)]
    rows = []
    for one in names:
        counts = [count(one, other) for other in names]
        plus = [place for place, times in enumerate(counts) if times == 1]
        minus = [place for place, times in enumerate(counts) if times == -1]
        rows.append((plus, minus))
    return rows


def summed(count, table):
    """For each set the sum over all sets, each counted as often as it counts for the set."""
    return [
        sum(table[place] for place in plus) - sum(table[place] for place in minus)
        for plus, minus in counted(count, len(table).bit_length() - 1)
    ]


def tables_to_sum(seed):
    """Drawn tables of none to six names, and the tables that helper.py tells, of none to ten."""
    source = random.Random(seed)
    tables = some_tables()
    for many in range(7):
        tables += drawn_tables(source, many)
    return tables


class SumTest:
    """What below, above and signed have in common; a class under it tells call, back and count."""

    def test_any_tables(self):
        for table in tables_to_sum(1):
            was = list(table)
            self.assert_list(self.call(table), summed(self.count, table))
            self.assert_same_things(table, was)

    def test_drawn_tables_of_ten_names(self):
        source = random.Random(2)
        for most in (9, 10 ** 30):
            table = drawn_table(source, 10, most)
            self.assert_list(self.call(table), summed(self.count, table))

    def test_each_table_with_one_number_alone(self):
        for many in range(6):
            for place in range(2 ** many):
                for number in (1, -5, 10 ** 3990):
                    table = [0] * 2 ** many
                    table[place] = number
                    self.assert_list(self.call(table), summed(self.count, table))

    def test_numbers_of_nearly_four_thousand_figures(self):
        source = random.Random(3)
        for many in range(6):
            table = drawn_table(source, many, 10 ** 3995)
            self.assert_list(self.call(table), summed(self.count, table))

    def test_the_way_back(self):
        source = random.Random(4)
        tables = tables_to_sum(4) + [drawn_table(source, many, 10 ** 3990) for many in range(6)]
        for table in tables:
            self.assert_list(self.back(self.call(table)), table)

    def test_the_way_back_from_sums_by_the_words(self):
        for table in tables_to_sum(5):
            sums = summed(self.count, table)
            was = list(sums)
            self.assert_list(self.back(sums), table)
            self.assert_same_things(sums, was)

    def test_what_is_handed_in_stays_and_what_is_told_is_the_askers_own(self):
        for table in tables_to_sum(6):
            sums = summed(self.count, table)
            another = [number + 1 for number in table]
            other_sums = summed(self.count, another)
            self.assert_own(self.call, sums, list(table), between=[another])
            self.assert_own(self.back, table, list(sums), between=[other_sums])
            self.assert_own(self.call, sums, list(table), between=[[1, 2]])
            self.assert_own(self.back, table, list(sums), between=[[1, 3]])

    def test_a_new_list_where_it_is_alike_the_one_handed_in(self):
        for table in ([0], [4], [0, 0], [0] * 8, [0] * 1024):
            self.assert_own(self.call, list(table), list(table), between=[list(table)])
            self.assert_own(self.back, list(table), list(table), between=[list(table)])

    def test_the_same_list_asked_again_when_it_has_changed(self):
        source = random.Random(7)
        for many in range(7):
            table, changed = drawn_table(source, many), drawn_table(source, many)
            sums, changed_sums = summed(self.count, table), summed(self.count, changed)
            self.assert_list(self.call(table), list(sums))
            table[:] = changed
            self.assert_list(self.call(table), list(changed_sums))
            self.back(sums)
            sums[:] = changed_sums
            self.assert_list(self.back(sums), changed)

    def test_refused(self):
        for thing in no_tables():
            self.assert_refused(BadTable, self.call, thing)
            self.assert_refused(BadTable, self.back, thing)

    def test_a_refusal_changes_nothing(self):
        wanted = summed(self.count, [3, -1, 4, 1])
        for thing in ([3, -1, 4, True], [3, -1, 4], None):
            self.assert_refused(BadTable, self.call, thing)
            self.assert_refused(BadTable, self.back, thing)
            self.assert_list(self.call([3, -1, 4, 1]), wanted)
            self.assert_list(self.back(list(wanted)), [3, -1, 4, 1])


class BothWaysTest(SumTest):
    """What below and above have in common: any table is the sums of one."""

    def test_sums_of_the_way_back_are_what_was_handed_in(self):
        source = random.Random(8)
        tables = tables_to_sum(8) + [drawn_table(source, many, 10 ** 3990) for many in range(6)]
        for table in tables:
            came_from = self.back(table)
            self.assert_list(self.call(came_from), table)
            self.assert_list(summed(self.count, came_from), table)


class BelowTest(BothWaysTest, SetsumsTest):
    count = staticmethod(counted_below)

    def call(self, table):
        return below(table)

    def back(self, table):
        return from_below(table)

    def test_ordinary_tables(self):
        self.assert_list(below([7]), [7])
        self.assert_list(below([1, 2]), [1, 3])
        self.assert_list(below([1, 2, 3, 4]), [1, 3, 4, 10])
        self.assert_list(below([1, -2, 30, 400, 5, 6, 7, 8]), [1, -1, 31, 429, 6, 10, 43, 455])

    def test_ordinary_ways_back(self):
        self.assert_list(from_below([7]), [7])
        self.assert_list(from_below([1, 2]), [1, 1])
        self.assert_list(from_below([1, 3, 4, 10]), [1, 2, 3, 4])
        self.assert_list(from_below([1, 2, 3, 5]), [1, 1, 2, 1])


class AboveTest(BothWaysTest, SetsumsTest):
    count = staticmethod(counted_above)

    def call(self, table):
        return above(table)

    def back(self, table):
        return from_above(table)

    def test_ordinary_tables(self):
        self.assert_list(above([7]), [7])
        self.assert_list(above([1, 2]), [3, 2])
        self.assert_list(above([1, 2, 3, 4]), [10, 6, 7, 4])
        self.assert_list(above([1, -2, 30, 400, 5, 6, 7, 8]), [455, 412, 445, 408, 26, 14, 15, 8])

    def test_ordinary_ways_back(self):
        self.assert_list(from_above([7]), [7])
        self.assert_list(from_above([1, 2]), [-1, 2])
        self.assert_list(from_above([10, 6, 7, 4]), [1, 2, 3, 4])
        self.assert_list(from_above([1, 2, 3, 5]), [1, -3, -2, 5])


class SignedTest(SumTest, SetsumsTest):
    count = staticmethod(counted_signed)

    def call(self, table):
        return signed(table)

    def back(self, table):
        return from_signed(table)

    def test_ordinary_tables(self):
        self.assert_list(signed([7]), [7])
        self.assert_list(signed([1, 2]), [3, -1])
        self.assert_list(signed([1, 2, 3, 4]), [10, -2, -4, 0])
        self.assert_list(signed([-1, -2]), [-3, 1])

    def test_ordinary_ways_back(self):
        self.assert_list(from_signed([7]), [7])
        self.assert_list(from_signed([3, -1]), [1, 2])
        self.assert_list(from_signed([10, -2, -4, 0]), [1, 2, 3, 4])
        self.assert_list(from_signed([-3, 1]), [-1, -2])

    def test_of_no_names_any_table_is_signed_sums(self):
        for number in (0, 1, -1, 7, 10 ** 3999, -(10 ** 3999)):
            self.assert_list(from_signed([number]), [number])

    def test_just_the_signed_sums_of_no_table_are_refused(self):
        # No number of a table is farther from nought than the farthest of its signed sums.
        for many, most in ((0, 9), (1, 9), (2, 2)):
            few = range(-most, most + 1)
            came_from = {}
            for table in itertools.product(few, repeat=2 ** many):
                came_from[tuple(summed(counted_signed, list(table)))] = list(table)
            for sums in itertools.product(few, repeat=2 ** many):
                if sums in came_from:
                    self.assert_list(from_signed(list(sums)), came_from[sums])
                else:
                    self.assert_refused(BadTable, from_signed, list(sums))

    def test_one_number_off(self):
        source = random.Random(9)
        for many in range(1, 7):
            for table in drawn_tables(source, many):
                sums = summed(counted_signed, table)
                for place in range(2 ** many):
                    for off in {1, -1, 2 ** (many - 1), -(2 ** (many - 1)), 2 ** many - 1, 2 ** many + 1}:
                        changed = list(sums)
                        changed[place] += off
                        self.assert_refused(BadTable, from_signed, changed)

    def test_one_number_off_of_ten_names(self):
        source = random.Random(10)
        for most in (9, 10 ** 60):
            sums = signed(drawn_table(source, 10, most))
            for place in (0, 1, 2, 511, 512, 1022, 1023):
                for off in (1, -1, 2, 256, 512, -512, 1023, 1025, 1536):
                    changed = list(sums)
                    changed[place] += off
                    self.assert_refused(BadTable, from_signed, changed)

    def test_very_large_numbers_one_off(self):
        for number in (10 ** 3999, -(10 ** 3999)):
            self.assert_list(from_signed([number, number]), [number, 0])
            self.assert_refused(BadTable, from_signed, [number, number + 1])
            self.assert_refused(BadTable, from_signed, [number - 1, number])

    def test_two_numbers_off_that_do_not_make_up_for_each_other(self):
        for many in range(2, 7):
            for place in range(1, 2 ** many):
                changed = [0] * 2 ** many
                changed[0] += 1
                changed[place] += 1
                self.assert_refused(BadTable, from_signed, changed)

    def test_one_number_off_by_as_many_as_there_are_sets(self):
        source = random.Random(11)
        for many in (0, 1, 2, 3, 4, 5, 10):
            table = drawn_table(source, many)
            for place in sorted({0, 2 ** many // 2, 2 ** many - 1}):
                for times in (1, -1, 10 ** 30):
                    changed = signed(table)
                    changed[place] += times * 2 ** many
                    wanted = [
                        number + times * counted_signed(names_in(place), names_in(one))
                        for one, number in enumerate(table)
                    ]
                    self.assert_list(from_signed(changed), wanted)

    def test_all_numbers_off_by_one(self):
        # The same number for each set is what the set without names alone gives.
        source = random.Random(12)
        for many in range(11):
            table = drawn_table(source, many)
            changed = [number + 1 for number in signed(table)]
            self.assert_list(from_signed(changed), [table[0] + 1] + table[1:])


if __name__ == "__main__":
    unittest.main()
