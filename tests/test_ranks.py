"""setsums/ranks.py: point [5], and points [1] and [3] as far as they speak of it."""

import random
import unittest

from helper import Likewise, SetsumsTest, drawn_table, drawn_tables, names_in, no_lists, no_tables, some_tables
from setsums.errors import BadTable
from setsums.ranks import from_ranked, ranked
from setsums.sums import from_below


def parts_by_names(one):
    """All parts of a set, looked up name by name."""
    return [
        other for other in range(one + 1)
        if all(name in names_in(one) for name in names_in(other))
    ]


PARTS = [parts_by_names(one) for one in range(128)]


def ranked_by_the_words(table, many):
    return [
        [
            sum(table[part] for part in PARTS[one] if len(names_in(part)) == size)
            for one in range(len(table))
        ]
        for size in range(many + 1)
    ]


def taken_apart(sums):
    """The table that has these sums over the parts: each number is what its set's other parts leave of its sum."""
    table = []
    for one, number in enumerate(sums):
        table.append(number - sum(table[part] for part in PARTS[one] if part != one))
    return table


def from_ranked_by_the_words(tables):
    apart = [taken_apart(table) for table in tables]
    return [apart[len(names_in(one))][one] for one in range(len(tables[0]))]


def drawn_list(source, many, most=9):
    """As many tables as there are names, and one more."""
    return [drawn_table(source, many, most) for _ in range(many + 1)]


def tables_to_rank(seed):
    """Tables of none to six names, each with how many it has."""
    source = random.Random(seed)
    tables = [table for table in some_tables() if len(table) <= 64]
    for many in range(7):
        tables += drawn_tables(source, many)
        tables.append(drawn_table(source, many, 10 ** 3990))
    return [(table, len(table).bit_length() - 1) for table in tables]


class RanksTest(SetsumsTest):
    def assert_lists(self, told, wanted):
        """A list of just these tables, each a list of its own."""
        self.assertIs(type(told), list)
        self.assertEqual(len(told), len(wanted))
        for one, other in zip(told, wanted):
            self.assert_list(one, other)
        self.assertEqual(len({id(table) for table in told}), len(told))


class RankedTest(RanksTest):
    def test_ordinary_tables(self):
        self.assert_lists(ranked([7]), [[7]])
        self.assert_lists(ranked([1, 2]), [[1, 1], [0, 2]])
        self.assert_lists(ranked([1, 2, 3, -4]), [[1, 1, 1, 1], [0, 2, 3, 5], [0, 0, 0, -4]])

    def test_none_to_ten_names(self):
        for many in range(11):
            told = ranked([1] * 2 ** many)
            self.assertEqual([len(table) for table in told], [2 ** many] * (many + 1))

    def test_any_tables(self):
        for table, many in tables_to_rank(1):
            was = list(table)
            self.assert_lists(ranked(table), ranked_by_the_words(table, many))
            self.assert_same_things(table, was)

    def test_ten_names(self):
        # Each place's number belongs to one size alone; so each size's numbers can be told apart.
        table = [10 ** len(names_in(one)) for one in range(1024)]
        for size, told in enumerate(ranked(table)):
            for one in (0, 1, 2, 5, 127, 512, 513, 682, 1022, 1023):
                sets = [other for other in range(1024) if all(name in names_in(one) for name in names_in(other))]
                of_size = [other for other in sets if len(names_in(other)) == size]
                self.assert_number(told[one], len(of_size) * 10 ** size)

    def test_what_is_handed_in_stays_and_what_is_told_is_the_askers_own(self):
        for table, many in tables_to_rank(2):
            self.assert_tables_own(table, ranked_by_the_words(table, many), [number + 1 for number in table])

    def test_new_lists_where_they_are_alike_the_one_handed_in(self):
        for many in range(7):
            noughts = [0] * 2 ** many
            self.assert_tables_own(noughts, [list(noughts) for _ in range(many + 1)], list(noughts))

    def assert_tables_own(self, table, wanted, another):
        was = list(table)
        told = ranked(table)
        ranked(another)
        self.assert_lists(told, wanted)
        for at, one in enumerate(told):
            self.assertIsNot(one, table)
            one[0] = -99
            one.append(at)
            for further in range(at + 1, len(told)):
                self.assert_list(told[further], wanted[further])
        told.pop()
        self.assert_same_things(table, was)
        ranked(another)
        again = ranked(table)
        self.assertIsNot(again, told)
        self.assert_lists(again, wanted)
        table.clear()
        self.assert_lists(again, wanted)
        self.assert_lists(ranked(was), wanted)

    def test_the_same_list_asked_again_when_it_has_changed(self):
        table = [1, 2, 3, 4]
        ranked(table)
        table[0] = 10
        self.assert_lists(ranked(table), [[10, 10, 10, 10], [0, 2, 3, 5], [0, 0, 0, 4]])

    def test_refused(self):
        for thing in no_tables():
            self.assert_refused(BadTable, ranked, thing)
            self.assert_lists(ranked([1, 2]), [[1, 1], [0, 2]])


class FromRankedTest(RanksTest):
    def assert_tables_refused(self, tables):
        """Refused, and each thing in the list stays as it was."""
        was = [list(table) if isinstance(table, list) else table for table in tables]
        self.assert_refused(BadTable, from_ranked, tables)
        for table, before in zip(tables, was):
            if isinstance(table, list):
                self.assert_same_things(table, before)

    def test_ordinary_tables(self):
        self.assert_list(from_ranked([[7]]), [7])
        self.assert_list(from_ranked([[1, 1], [0, 2]]), [1, 2])
        self.assert_list(from_ranked([[1, 20], [300, 4000]]), [1, 3700])
        told = from_ranked([[1, 1, 1, 1], [0, 2, 3, 5], [0, 0, 0, -4]])
        self.assert_list(told, [1, 2, 3, -4])

    def test_of_ranked_it_is_the_table(self):
        for table, _ in tables_to_rank(3):
            self.assert_list(from_ranked(ranked(table)), table)
        source = random.Random(3)
        for table in drawn_tables(source, 10):
            self.assert_list(from_ranked(ranked(table)), table)

    def test_any_tables_by_the_words(self):
        source = random.Random(4)
        for many in range(7):
            for most in (1, 9, 10 ** 60, 10 ** 3990):
                tables = drawn_list(source, many, most)
                self.assert_list(from_ranked(tables), from_ranked_by_the_words(tables))

    def test_any_tables_of_ten_names(self):
        source = random.Random(5)
        tables = drawn_list(source, 10)
        apart = [from_below(table) for table in tables]
        wanted = [apart[len(names_in(one))][one] for one in range(1024)]
        self.assert_list(from_ranked(tables), wanted)

    def test_only_the_table_of_the_sets_size_tells(self):
        for many in range(5):
            for place in range(many + 1):
                tables = [[0] * 2 ** many for _ in range(many + 1)]
                tables[place] = [10 ** one for one in range(2 ** many)]
                self.assert_list(from_ranked(tables), from_ranked_by_the_words(tables))

    def test_one_table_at_several_places(self):
        table = [1, 2, 3, 5]
        self.assert_list(from_ranked([table, table, table]), [1, 1, 2, 1])
        self.assertEqual(table, [1, 2, 3, 5])

    def test_what_is_handed_in_stays_and_what_is_told_is_the_askers_own(self):
        source = random.Random(6)
        for many in list(range(7)) + [10]:
            tables = drawn_list(source, many)
            another = drawn_list(source, many)
            held = list(tables)
            was = [list(table) for table in tables]
            wanted = from_ranked(was)
            told = from_ranked(tables)
            from_ranked(another)
            self.assert_list(told, wanted)
            told[0] = -99
            told.append(5)
            self.assert_same_things(tables, held)
            for table, before in zip(tables, was):
                self.assert_same_things(table, before)
            from_ranked(another)
            again = from_ranked(tables)
            self.assertIsNot(again, told)
            self.assert_list(again, wanted)
            for table in tables:
                table.clear()
            tables.clear()
            self.assert_list(again, wanted)
            self.assert_list(from_ranked(was), wanted)

    def test_the_same_list_asked_again_when_a_table_in_it_has_changed(self):
        tables = [[1, 1], [0, 2]]
        from_ranked(tables)
        tables[1][1] = 30
        self.assert_list(from_ranked(tables), [1, 30])

    def test_no_list(self):
        for thing in no_lists() + [([1],), ([1, 2], [3, 4]), {0: [1]}, iter([[1]])]:
            self.assert_refused(BadTable, from_ranked, thing)

    def test_a_list_of_nothing(self):
        self.assert_tables_refused([])

    def test_too_few_or_too_many_tables(self):
        for many in range(11):
            for length in range(14):
                if length != many + 1:
                    self.assert_tables_refused([[3] * 2 ** many for _ in range(length)])
        self.assert_tables_refused([[3] for _ in range(2048)])

    def test_more_than_ten_names(self):
        self.assert_tables_refused([[3] * 2048 for _ in range(12)])

    def test_a_thing_that_is_no_table_at_any_place(self):
        source = random.Random(7)
        for many in range(4):
            for place in range(many + 1):
                for thing in no_tables():
                    tables = drawn_list(source, many)
                    tables[place] = thing
                    self.assert_tables_refused(tables)

    def test_a_wrong_number_at_any_place(self):
        for many in range(5):
            for at in range(many + 1):
                for place in range(2 ** many):
                    for thing in (True, False, None, "1", 1.0, [1], Likewise()):
                        tables = [[1] * 2 ** many for _ in range(many + 1)]
                        tables[at][place] = thing
                        self.assert_tables_refused(tables)

    def test_a_table_of_another_many_names_at_any_place(self):
        for many in range(1, 11):
            for place in range(many + 1):
                for other in range(11):
                    if other != many:
                        tables = [[1] * 2 ** many for _ in range(many + 1)]
                        tables[place] = [1] * 2 ** other
                        self.assert_tables_refused(tables)

    def test_all_tables_of_another_many_names(self):
        for many in range(11):
            for other in range(11):
                if other != many:
                    self.assert_tables_refused([[1] * 2 ** other for _ in range(many + 1)])

    def test_lists_within_lists(self):
        endless = []
        endless.append(endless)
        self.assert_refused(BadTable, from_ranked, endless)
        self.assert_tables_refused([[[1]]])
        self.assert_tables_refused([ranked([1, 2]), ranked([1, 2])])
        self.assert_refused(BadTable, from_ranked, [1, 2])

    def test_a_refusal_changes_nothing(self):
        for thing in ([], [[1, 2]], [[1, 1], [0, True]], None):
            self.assert_refused(BadTable, from_ranked, thing)
            self.assert_list(from_ranked([[1, 1], [0, 2]]), [1, 2])


if __name__ == "__main__":
    unittest.main()
