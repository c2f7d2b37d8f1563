"""setsums/covers.py: point [8], and points [1] and [3] as far as they speak of it."""

import itertools
import random
import time
import unittest

from helper import SetsumsTest, names_in, no_counts, no_lists, no_sets, no_wholes
from setsums.covers import covers, fewest, least_cover
from setsums.errors import BadCount, BadNumber, BadSet, NoCover

NAMES = [frozenset(names_in(one)) for one in range(1024)]
NO_LENGTHS = [-1, -2, -20, 21, 22, 40, 1000, 10 ** 30, -(10 ** 30), 10 ** 3999] + no_wholes()
ALL_TEN = 1023


def is_cover(many, sets, row):
    """Whether each of the names is in one of the sets at these places."""
    return len(frozenset().union(*[NAMES[sets[place]] for place in row])) == many


def counted_rows(many, sets, long):
    """How many rows cover, each row looked at."""
    return sum(is_cover(many, sets, row) for row in itertools.product(range(len(sets)), repeat=long))


def counted_by_names(many, sets, long):
    """How many rows cover, rows that have the same names counted together."""
    rows = {frozenset(): 1}
    for _ in range(long):
        longer = {}
        for names, times in rows.items():
            for one in sets:
                together = names | NAMES[one]
                longer[together] = longer.get(together, 0) + times
        rows = longer
    return rows.get(frozenset(range(many)), 0)


def first_cover(many, sets):
    """Of the rows that cover, their places rising, the first of the shortest ones; None where there is none."""
    for long in range(many + 1):
        for row in itertools.combinations_with_replacement(range(len(sets)), long):
            if is_cover(many, sets, row):
                return list(row)
    return None


def drawn_sets(source, many, length):
    """A list of so many sets: of any, of small ones, or of few kinds."""
    most = 2 ** many - 1
    kinds = source.choice((
        range(most + 1),
        [0] + [2 ** name for name in range(many)],
        [source.randint(0, most) & source.randint(0, most) for _ in range(length + 1)],
        [source.randint(0, most) for _ in range(3)],
    ))
    return [source.choice(kinds) for _ in range(length)]


class CoversTest(SetsumsTest):
    def test_ordinary_sets(self):
        self.assert_number(covers(2, [1, 2], 1), 0)
        self.assert_number(covers(2, [1, 2], 2), 2)
        self.assert_number(covers(2, [1, 2], 3), 6)
        self.assert_number(covers(2, [1, 2, 3], 1), 1)
        self.assert_number(covers(2, [1, 2, 3], 2), 7)
        self.assert_number(covers(3, [3, 5, 6], 2), 6)
        self.assert_number(covers(3, [3, 5, 6], 3), 24)

    def test_no_names(self):
        self.assert_number(covers(0, [], 0), 1)
        self.assert_number(covers(0, [], 1), 0)
        self.assert_number(covers(0, [], 20), 0)
        self.assert_number(covers(0, [0], 0), 1)
        self.assert_number(covers(0, [0], 20), 1)
        self.assert_number(covers(0, [0, 0, 0], 4), 81)
        self.assert_number(covers(0, [0] * 40, 20), 40 ** 20)

    def test_no_sets(self):
        for many in range(1, 11):
            for long in (0, 1, 2, 20):
                self.assert_number(covers(many, [], long), 0)

    def test_rows_without_places(self):
        for many in range(1, 11):
            self.assert_number(covers(many, [2 ** many - 1] * 3, 0), 0)

    def test_one_name(self):
        self.assert_number(covers(1, [1], 1), 1)
        self.assert_number(covers(1, [0], 1), 0)
        self.assert_number(covers(1, [0, 1], 5), 31)
        self.assert_number(covers(1, [1, 1, 0], 2), 8)

    def test_sets_alike_stand_at_places_of_their_own(self):
        self.assert_number(covers(2, [3, 3], 1), 2)
        self.assert_number(covers(2, [1, 1, 2], 2), 4)
        self.assert_number(covers(10, [ALL_TEN] * 40, 20), 40 ** 20)

    def test_the_set_of_none(self):
        self.assert_number(covers(2, [0, 0, 0], 4), 0)
        self.assert_number(covers(2, [0, 3], 2), 3)
        self.assert_number(covers(10, [0] * 39 + [ALL_TEN], 20), 40 ** 20 - 39 ** 20)

    def test_ten_names_one_by_one(self):
        ones = [2 ** name for name in range(10)]
        self.assert_number(covers(10, ones, 9), 0)
        self.assert_number(covers(10, ones, 10), 3628800)
        self.assert_number(covers(10, ones * 4, 10), 3628800 * 4 ** 10)
        self.assert_number(covers(10, ones[:9], 20), 0)

    def test_each_row_looked_at(self):
        source = random.Random(1)
        for many in range(5):
            for length in range(5):
                for long in range(5):
                    sets = drawn_sets(source, many, length)
                    self.assert_number(covers(many, sets, long), counted_rows(many, sets, long))

    def test_all_lists_of_two_sets_of_two_names(self):
        for sets in itertools.product(range(4), repeat=2):
            for long in range(5):
                self.assert_number(covers(2, list(sets), long), counted_rows(2, sets, long))

    def test_any_sets(self):
        source = random.Random(2)
        for many in range(11):
            for length in (1, 2, 7, 20, 40):
                sets = drawn_sets(source, many, length)
                long = source.randint(0, 20) if many < 8 else source.randint(0, 5)
                was = list(sets)
                self.assert_number(covers(many, sets, long), counted_by_names(many, was, long))
                self.assert_same_things(sets, was)

    def test_the_most_of_all_within_a_short_time(self):
        sets = [(37 * place * place + 11) % 1024 for place in range(40)]
        wanted = counted_by_names(10, sets, 20)
        start = time.process_time()
        self.assert_number(covers(10, sets, 20), wanted)
        self.assertLess(time.process_time() - start, 2)

    def test_the_same_list_asked_again_when_it_has_changed(self):
        sets = [1, 2]
        self.assert_number(covers(2, sets, 2), 2)
        sets.append(3)
        self.assert_number(covers(2, sets, 2), 7)
        sets.clear()
        self.assert_number(covers(2, sets, 2), 0)

    def test_bad_counts(self):
        for thing in no_counts():
            for sets in ([], [0], [-1], None, [0] * 41):
                for long in (0, 1, -1, 21, None):
                    self.assert_refused(BadCount, covers, thing, sets, long)

    def test_bad_lists_of_sets(self):
        for sets in no_lists() + [(), (0,), {0: 0}, range(1), "0"]:
            for many in (0, 1, 10):
                for long in (0, 1, -1, 21, None, True):
                    self.assert_refused(BadSet, covers, many, sets, long)

    def test_more_than_forty_sets(self):
        for many in range(11):
            for length in (41, 42, 80, 1024):
                self.assert_refused(BadSet, covers, many, [0] * length, 1)
                self.assert_refused(BadSet, covers, many, [0] * length, 21)

    def test_no_set_at_any_place(self):
        for many in range(11):
            for thing in no_sets(many):
                for sets in ([thing], [thing, 0], [0, thing], [0] * 39 + [thing]):
                    self.assert_refused(BadSet, covers, many, sets, 1)
                    self.assert_refused(BadSet, covers, many, sets, -1)

    def test_bad_lengths(self):
        for many in range(11):
            for sets in ([], [0], [2 ** many - 1] * 40):
                for thing in NO_LENGTHS:
                    self.assert_refused(BadNumber, covers, many, sets, thing)


class FewestTest(SetsumsTest):
    """What fewest and least_cover tell."""

    def assert_least(self, many, sets, row):
        was = list(sets)
        told = least_cover(many, sets)
        self.assert_list(told, row)
        self.assertIsNot(told, sets)
        self.assert_number(fewest(many, sets), len(row))
        self.assert_same_things(sets, was)

    def assert_none(self, many, sets):
        self.assert_refused(NoCover, fewest, many, sets)
        self.assert_refused(NoCover, least_cover, many, sets)

    def assert_both_refused(self, refusal, many, sets):
        self.assert_refused(refusal, fewest, many, sets)
        self.assert_refused(refusal, least_cover, many, sets)

    def test_ordinary_sets(self):
        self.assert_least(2, [1, 2], [0, 1])
        self.assert_least(2, [1, 2, 3], [2])
        self.assert_least(3, [3, 5, 6], [0, 1])
        self.assert_least(3, [1, 2, 4, 6], [0, 3])
        self.assert_least(4, [5, 3, 6, 12, 10, 9], [0, 4])

    def test_no_names(self):
        for length in range(41):
            self.assert_least(0, [0] * length, [])

    def test_one_name(self):
        self.assert_least(1, [1], [0])
        self.assert_least(1, [0, 0, 1, 1], [2])
        self.assert_none(1, [0])

    def test_no_sets(self):
        for many in range(1, 11):
            self.assert_none(many, [])

    def test_sets_alike(self):
        self.assert_least(2, [3, 3], [0])
        self.assert_least(2, [1, 1, 2, 2], [0, 2])
        self.assert_least(10, [ALL_TEN] * 40, [0])

    def test_the_set_of_none(self):
        self.assert_least(2, [0, 3], [1])
        self.assert_least(2, [0, 1, 0, 2], [1, 3])
        self.assert_least(10, [0] * 39 + [ALL_TEN], [39])
        self.assert_none(2, [0] * 40)

    def test_the_first_place_is_least_then_the_second(self):
        # The greatest set, taken first, would leave two more to be taken.
        self.assert_least(6, [0b001111, 0b010101, 0b101010], [1, 2])
        self.assert_least(3, [1, 6, 3, 4], [0, 1])
        self.assert_least(3, [4, 1, 2, 3, 6], [0, 3])
        self.assert_least(3, [1, 4, 2, 6, 5], [0, 3])
        self.assert_least(4, [1, 2, 12, 4, 8, 14], [0, 5])

    def test_ten_names_one_by_one(self):
        ones = [2 ** name for name in range(10)]
        self.assert_least(10, ones, list(range(10)))
        self.assert_least(10, ones * 4, list(range(10)))
        self.assert_least(10, [0] * 30 + ones[::-1], list(range(30, 40)))
        for name in range(10):
            self.assert_none(10, [ALL_TEN - 2 ** name] * 40)
            self.assert_none(10, (ones[:name] + ones[name + 1:]) * 4)

    def test_all_lists_of_three_sets_of_none_to_three_names(self):
        for many in range(4):
            for length in range(4):
                for sets in itertools.product(range(2 ** many), repeat=length):
                    self.assert_by_the_words(many, list(sets))

    def test_any_sets(self):
        source = random.Random(3)
        for many in range(11):
            for length in list(range(9)) * 4:
                self.assert_by_the_words(many, drawn_sets(source, many, length))

    def test_forty_sets(self):
        source = random.Random(4)
        for many in range(6):
            for _ in range(5):
                self.assert_by_the_words(many, [source.randrange(2 ** many) for _ in range(40)])
        for _ in range(3):
            large = [source.randrange(1024) | source.randrange(1024) for _ in range(40)]
            self.assert_by_the_words(10, large)

    def assert_by_the_words(self, many, sets):
        row = first_cover(many, sets)
        if row is None:
            self.assert_none(many, sets)
        else:
            self.assert_least(many, sets, row)

    def test_the_most_of_all_within_a_short_time(self):
        sets = [2 ** (place % 10) | 2 ** (place * place % 10) for place in range(40)]
        start = time.process_time()
        row = least_cover(10, sets)
        self.assert_number(fewest(10, sets), len(row))
        self.assertLess(time.process_time() - start, 2)
        self.assertTrue(is_cover(10, sets, row))

    def test_it_is_the_least_length_of_which_covers_tells_a_row(self):
        source = random.Random(5)
        for many in range(11):
            for length in (1, 5, 20, 40):
                sets = drawn_sets(source, many, length)
                rows = [covers(many, sets, long) for long in range(21)]
                if any(rows):
                    least = [long for long, times in enumerate(rows) if times != 0][0]
                    self.assert_number(fewest(many, sets), least)
                    row = least_cover(many, sets)
                    self.assertEqual(row, sorted(set(row)))
                    self.assertTrue(is_cover(many, sets, row))
                else:
                    self.assert_none(many, sets)

    def test_what_is_handed_in_stays_and_what_is_told_is_the_askers_own(self):
        for many, sets in ((0, []), (0, [0]), (2, [1, 2, 3]), (3, [3, 5, 6]), (10, [2 ** k for k in range(10)])):
            row = first_cover(many, sets)
            another = [2 ** many - 1] + sets
            self.assert_own(least_cover, row, many, list(sets), between=[many, another])
            self.assert_own(least_cover, row, many, list(sets), between=[many, list(sets)])

    def test_the_same_list_asked_again_when_it_has_changed(self):
        sets = [1, 2]
        self.assert_least(2, sets, [0, 1])
        sets.append(3)
        self.assert_least(2, sets, [2])
        sets.clear()
        self.assert_none(2, sets)

    def test_bad_counts(self):
        for thing in no_counts():
            for sets in ([], [0], [-1], None, [0] * 41):
                self.assert_both_refused(BadCount, thing, sets)

    def test_bad_lists_of_sets(self):
        for sets in no_lists() + [(), (0,), {0: 0}, range(1), "0"]:
            for many in (0, 1, 10):
                self.assert_both_refused(BadSet, many, sets)

    def test_more_than_forty_sets(self):
        for many in range(11):
            for length in (41, 42, 80, 1024):
                self.assert_both_refused(BadSet, many, [0] * length)
                self.assert_both_refused(BadSet, many, [2 ** many - 1] * length)

    def test_no_set_at_any_place(self):
        for many in range(11):
            for thing in no_sets(many):
                for sets in ([thing], [thing, 0], [2 ** many - 1, thing], [0] * 39 + [thing]):
                    self.assert_both_refused(BadSet, many, sets)

    def test_a_refusal_changes_nothing(self):
        for thing in ([1, 4], [1, True], [1, 0], None):
            with self.assertRaises((BadSet, NoCover)):
                least_cover(2, thing)
            self.assert_least(2, [2, 1, 0], [0, 1])


if __name__ == "__main__":
    unittest.main()
