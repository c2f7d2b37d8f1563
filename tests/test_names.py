"""setsums/names.py: point [7], and points [1] and [3] as far as they speak of it."""

import itertools
import random
import unittest

from helper import (
    SetsumsTest, drawn_order, drawn_table, drawn_tables, names_in, no_lists, no_names, no_tables, no_wholes, set_with,
    some_tables, told_otherwise,
)
from setsums.errors import BadCount, BadName, BadOrder, BadTable, Unlike
from setsums.names import parted, reordered, with_name


def put_together(without, holding, name):
    """The table of one more name, each set's other names looked up one by one."""
    told = []
    for one in range(2 * len(without)):
        others = [other if other < name else other - 1 for other in names_in(one) if other != name]
        half = holding if name in names_in(one) else without
        told.append(half[set_with(others)])
    return told


def tables_to_tell(seed):
    """Tables of none to ten names, each with how many it has."""
    source = random.Random(seed)
    tables = some_tables()
    for many in range(11):
        tables += drawn_tables(source, many)
    return [(table, len(table).bit_length() - 1) for table in tables]


class ReorderedTest(SetsumsTest):
    def test_ordinary_orders(self):
        self.assert_list(reordered([5, 6, 7, 8], [1, 0]), [5, 7, 6, 8])
        # Name 0 of the table told is the name 1 of that handed in, name 1 the name 2, name 2 the name 0.
        self.assert_list(reordered([0, 1, 2, 3, 4, 5, 6, 7], [1, 2, 0]), [0, 2, 4, 6, 1, 3, 5, 7])
        self.assert_list(reordered([0, 1, 2, 3, 4, 5, 6, 7], [2, 0, 1]), [0, 4, 1, 5, 2, 6, 3, 7])

    def test_no_names_and_one_name(self):
        self.assert_list(reordered([-3], []), [-3])
        self.assert_list(reordered([4, 10 ** 3999], [0]), [4, 10 ** 3999])

    def test_each_order_of_none_to_five_names(self):
        source = random.Random(1)
        for many in range(6):
            table = drawn_table(source, many, 10 ** 9)
            for order in itertools.permutations(range(many)):
                self.assert_list(reordered(table, list(order)), told_otherwise(table, order))

    def test_any_tables(self):
        source = random.Random(2)
        for table, many in tables_to_tell(2):
            order = drawn_order(source, many)
            was, order_was = list(table), list(order)
            self.assert_list(reordered(table, order), told_otherwise(was, order_was))
            self.assert_same_things(table, was)
            self.assertEqual(order, order_was)

    def test_each_name_alone_of_ten(self):
        order = [3, 9, 0, 5, 8, 1, 2, 7, 6, 4]
        told = reordered(list(range(1024)), order)
        for name in range(10):
            self.assert_number(told[2 ** name], 2 ** order[name])

    def test_one_order_behind_another(self):
        source = random.Random(3)
        for many in range(11):
            table = drawn_table(source, many)
            first, second = drawn_order(source, many), drawn_order(source, many)
            both = [first[name] for name in second]
            self.assert_list(reordered(reordered(table, first), second), reordered(table, both))
            back = [first.index(name) for name in range(many)]
            self.assert_list(reordered(reordered(table, first), back), table)

    def test_what_is_handed_in_stays_and_what_is_told_is_the_askers_own(self):
        source = random.Random(4)
        for table, many in tables_to_tell(4):
            another = [number + 1 for number in table]
            order, other_order = drawn_order(source, many), drawn_order(source, many)
            wanted = told_otherwise(table, order)
            self.assert_own(reordered, wanted, list(table), list(order), between=[another, list(order)])
            self.assert_own(reordered, wanted, list(table), list(order), between=[list(table), other_order])

    def test_a_new_list_where_the_order_stays(self):
        for table, many in tables_to_tell(5):
            self.assert_own(reordered, list(table), list(table), list(range(many)))

    def test_the_same_lists_asked_again_when_they_have_changed(self):
        table, order = [1, 2, 3, 4], [1, 0]
        reordered(table, order)
        table[1] = 20
        self.assert_list(reordered(table, order), [1, 3, 20, 4])
        order.reverse()
        self.assert_list(reordered(table, order), [1, 20, 3, 4])

    def test_bad_tables(self):
        for thing in no_tables():
            for order in ([], [0], [1, 0], [0, 0], None, Ellipsis):
                self.assert_refused(BadTable, reordered, thing, order)

    def test_no_list(self):
        for thing in no_lists() + [(), (0,), (0, 1), {0: 0}, "0", range(1), iter([0])]:
            for many in (0, 1, 2, 10):
                self.assert_refused(BadOrder, reordered, [1] * 2 ** many, thing)

    def test_too_few_or_too_many_names(self):
        for many in range(11):
            table = [1] * 2 ** many
            for length in range(14):
                if length != many:
                    self.assert_refused(BadOrder, reordered, table, list(range(length)))
            self.assert_refused(BadOrder, reordered, table, list(range(1000)))
            self.assert_refused(BadOrder, reordered, table, [0] * (many + 1))

    def test_a_name_twice(self):
        for many in range(2, 5):
            for order in itertools.product(range(many), repeat=many):
                if len(set(order)) < many:
                    self.assert_refused(BadOrder, reordered, [1] * 2 ** many, list(order))
        self.assert_refused(BadOrder, reordered, [1] * 1024, [0, 1, 2, 3, 4, 5, 6, 7, 8, 8])
        self.assert_refused(BadOrder, reordered, [1] * 1024, [5, 1, 2, 3, 4, 5, 6, 7, 8, 9])

    def test_no_name_at_any_place(self):
        for many in range(1, 5):
            for place in range(many):
                for thing in no_names(many):
                    order = list(range(many))
                    order[place] = thing
                    self.assert_refused(BadOrder, reordered, list(range(2 ** many)), order)
        for thing in no_names(10):
            self.assert_refused(BadOrder, reordered, [1] * 1024, list(range(9)) + [thing])

    def test_names_counted_from_one(self):
        for many in range(1, 11):
            self.assert_refused(BadOrder, reordered, [1] * 2 ** many, list(range(1, many + 1)))
            self.assert_refused(BadOrder, reordered, [1] * 2 ** many, list(range(-many, 0)))


class WithNameTest(SetsumsTest):
    def test_ordinary_tables(self):
        self.assert_list(with_name([1, 2], [30, 40], 0), [1, 30, 2, 40])
        self.assert_list(with_name([1, 2], [30, 40], 1), [1, 2, 30, 40])
        self.assert_list(with_name([1, 2, 3, 4], [50, 60, 70, 80], 1), [1, 2, 50, 60, 3, 4, 70, 80])

    def test_the_first_name(self):
        self.assert_list(with_name([-3], [10 ** 3999], 0), [-3, 10 ** 3999])

    def test_each_name_of_none_to_nine_and_one_more(self):
        source = random.Random(6)
        for many in range(10):
            for most in (9, 10 ** 60):
                without, holding = drawn_table(source, many, most), drawn_table(source, many, most)
                for name in range(many + 1):
                    was, other_was = list(without), list(holding)
                    wanted = put_together(was, other_was, name)
                    self.assert_list(with_name(without, holding, name), wanted)
                    self.assert_same_things(without, was)
                    self.assert_same_things(holding, other_was)

    def test_a_table_with_itself(self):
        table = [4, -5]
        self.assert_list(with_name(table, table, 0), [4, 4, -5, -5])
        self.assert_list(with_name(table, table, 1), [4, -5, 4, -5])
        self.assertEqual(table, [4, -5])

    def test_what_is_handed_in_stays_and_what_is_told_is_the_askers_own(self):
        source = random.Random(7)
        for many in range(10):
            for without in drawn_tables(source, many):
                holding = drawn_table(source, many)
                for name in (0, many // 2, many):
                    wanted = put_together(without, holding, name)
                    between = [list(holding), list(without), name]
                    self.assert_own(with_name, wanted, list(without), list(holding), name, between=between)
                    between = [list(without), list(holding), many - name]
                    self.assert_own(with_name, wanted, list(without), list(holding), name, between=between)

    def test_bad_tables(self):
        for thing in no_tables():
            for name in (0, 1, -1, None, True):
                self.assert_refused(BadTable, with_name, thing, [1, 2], name)
                self.assert_refused(BadTable, with_name, [1, 2], thing, name)
                self.assert_refused(BadTable, with_name, thing, thing, name)
                self.assert_refused(BadTable, with_name, [1] * 1024, thing, name)
                self.assert_refused(BadTable, with_name, thing, [1] * 1024, name)
            if isinstance(thing, list) and thing:
                self.assert_refused(BadTable, with_name, thing, [1] * len(thing), 0)
                self.assert_refused(BadTable, with_name, [1] * len(thing), thing, 0)

    def test_unlike(self):
        for many in range(11):
            for other in range(11):
                if many != other:
                    for name in (0, many, 10, 11, -1, None, True, "0"):
                        self.assert_refused(Unlike, with_name, [1] * 2 ** many, [1] * 2 ** other, name)

    def test_an_eleventh_name(self):
        for name in list(range(12)) + no_names(11):
            self.assert_refused(BadCount, with_name, [1] * 1024, [2] * 1024, name)

    def test_no_place_for_the_name(self):
        for many in range(10):
            for thing in no_names(many + 1):
                self.assert_refused(BadName, with_name, [1] * 2 ** many, [2] * 2 ** many, thing)

    def test_a_refusal_changes_nothing(self):
        without, holding = [1, 2], [3, 4]
        for name in (-1, 3, None):
            self.assert_refused(BadName, with_name, without, holding, name)
            self.assert_list(with_name(without, holding, 1), [1, 2, 3, 4])


class PartedTest(SetsumsTest):
    def assert_pair(self, told, without, holding):
        """A pair of just these tables, each a list of its own."""
        self.assertIs(type(told), tuple)
        self.assertEqual(len(told), 2)
        self.assert_list(told[0], without)
        self.assert_list(told[1], holding)
        self.assertIsNot(told[0], told[1])

    def test_ordinary_tables(self):
        self.assert_pair(parted([1, 2, 3, 4], 0), [1, 3], [2, 4])
        self.assert_pair(parted([1, 2, 3, 4], 1), [1, 2], [3, 4])
        self.assert_pair(parted([0, 1, 2, 3, 4, 5, 6, 7], 1), [0, 1, 4, 5], [2, 3, 6, 7])

    def test_the_only_name(self):
        self.assert_pair(parted([-3, 10 ** 3999], 0), [-3], [10 ** 3999])

    def test_each_name_of_a_table_put_together_by_the_words(self):
        source = random.Random(8)
        for many in range(10):
            without, holding = drawn_table(source, many), drawn_table(source, many, 10 ** 60)
            for name in range(many + 1):
                table = put_together(without, holding, name)
                was = list(table)
                self.assert_pair(parted(table, name), without, holding)
                self.assert_same_things(table, was)

    def test_there_and_back(self):
        for table, many in tables_to_tell(9):
            for name in range(many):
                without, holding = parted(table, name)
                self.assert_list(with_name(without, holding, name), table)
                if many < 10:
                    for place in range(many + 1):
                        self.assert_pair(parted(with_name(table, table, place), place), table, table)

    def test_what_is_handed_in_stays_and_what_is_told_is_the_askers_own(self):
        source = random.Random(10)
        for many in range(1, 11):
            for table in drawn_tables(source, many):
                for name in (0, many // 2, many - 1):
                    self.assert_pair_own(table, name)

    def assert_pair_own(self, table, name):
        was = list(table)
        half, other_half = parted(was, name)
        wanted, other_wanted = list(half), list(other_half)
        self.assert_list(put_together(wanted, other_wanted, name), was)
        handed = list(was)
        told = parted(handed, name)
        told[0][0] = -99
        told[0].append(7)
        self.assert_list(told[1], other_wanted)
        told[1].clear()
        self.assert_same_things(handed, was)
        parted([number + 1 for number in was], name)
        again = parted(handed, name)
        self.assert_pair(again, wanted, other_wanted)
        handed.clear()
        self.assert_pair(again, wanted, other_wanted)
        self.assert_list(half, wanted)
        self.assert_list(other_half, other_wanted)

    def test_bad_tables(self):
        for thing in no_tables():
            for name in (0, 1, -1, 10, None, True, "0"):
                self.assert_refused(BadTable, parted, thing, name)

    def test_none_of_its_names(self):
        for many in range(11):
            for thing in no_names(many):
                self.assert_refused(BadName, parted, list(range(2 ** many)), thing)

    def test_of_no_names_there_is_none_to_part(self):
        for thing in list(range(12)) + no_wholes():
            self.assert_refused(BadName, parted, [5], thing)


if __name__ == "__main__":
    unittest.main()
