"""setsums/products.py: point [6], and points [1] and [3] as far as they speak of it."""

import random
import time
import unittest

from helper import SetsumsTest, drawn_table, drawn_tables, names_in, no_tables
from setsums.errors import BadTable, Unlike
from setsums.products import apart, crossed, joined, met

SETS = [frozenset(names_in(one)) for one in range(1024)]
PLACES = {names: one for one, names in enumerate(SETS)}


def pairs_to_put_together(seed):
    """Pairs of tables of none to five names, with numbers below nought and very large ones."""
    source = random.Random(seed)
    pairs = []
    for many in range(6):
        ones = drawn_tables(source, many)
        others = drawn_tables(source, many)
        pairs += [(one, other) for one in ones for other in others]
        pairs.append((drawn_table(source, many, 10 ** 1990), drawn_table(source, many, 10 ** 1990)))
        pairs.append(([0] * 2 ** many, ones[0]))
    return pairs


class ProductTest:
    """What the four ways have in common.

    A class under it tells call, and together: of two sets of names the set
    for which the pair counts, None where it counts for none.
    """

    def by_the_words(self, one, other):
        """For each set the sum over all pairs of sets that count for it."""
        told = [0] * len(one)
        for number, names in zip(one, SETS):
            if number == 0:
                continue
            for factor, other_names in zip(other, SETS):
                counts_for = self.together(names, other_names)
                if counts_for is not None:
                    told[PLACES[counts_for]] += number * factor
        return told

    def test_any_tables(self):
        for one, other in pairs_to_put_together(1):
            was, other_was = list(one), list(other)
            self.assert_list(self.call(one, other), self.by_the_words(one, other))
            self.assert_same_things(one, was)
            self.assert_same_things(other, other_was)

    def test_seven_names(self):
        source = random.Random(2)
        one, other = drawn_table(source, 7), drawn_table(source, 7, 10 ** 30)
        self.assert_list(self.call(one, other), self.by_the_words(one, other))

    def test_ten_names(self):
        source = random.Random(3)
        one, other = drawn_table(source, 10), drawn_table(source, 10, 10 ** 30)
        self.assert_list(self.call(one, other), self.by_the_words(one, other))

    def test_ten_names_within_a_short_time(self):
        source = random.Random(4)
        one, other = drawn_table(source, 10), drawn_table(source, 10, 10 ** 60)
        start = time.process_time()
        self.call(one, other)
        self.assertLess(time.process_time() - start, 2)

    def test_each_two_sets_of_three_names_alone(self):
        for place in range(8):
            for other_place in range(8):
                one, other = [0] * 8, [0] * 8
                one[place], other[other_place] = 3, -5
                wanted = [0] * 8
                counts_for = self.together(SETS[place], SETS[other_place])
                if counts_for is not None:
                    wanted[PLACES[counts_for]] = -15
                self.assert_list(self.call(one, other), wanted)

    def test_what_is_handed_in_stays_and_what_is_told_is_the_askers_own(self):
        for one, other in pairs_to_put_together(5):
            wanted = self.by_the_words(one, other)
            another = [number + 1 for number in one]
            self.assert_own(self.call, list(wanted), list(one), list(other), between=[another, list(other)])
            self.assert_own(self.call, list(wanted), list(one), list(other), between=[list(other), another])
            self.assert_own(self.call, list(wanted), list(one), list(other), between=[[1, 2], [3, 4]])

    def test_a_new_list_where_it_is_alike_one_handed_in(self):
        for table in ([4], [4, -5], [4, -5, 6, 10 ** 40], list(range(1024))):
            same = [0] * len(table)
            same[self.nothing_done(len(table))] = 1
            self.assert_own(self.call, list(table), list(table), list(same))
            self.assert_own(self.call, list(table), list(same), list(table))
            noughts = [0] * len(table)
            self.assert_own(self.call, list(noughts), list(noughts), list(noughts))

    def test_a_table_with_itself(self):
        for table in ([3], [2, -1], [2, 0, -3, 10 ** 40]):
            was = list(table)
            self.assert_list(self.call(table, table), self.by_the_words(was, was))
            self.assertEqual(table, was)

    def test_the_same_lists_asked_again_when_they_have_changed(self):
        one, other = [1, 2, 3, 4], [5, 6, 7, 8]
        self.call(one, other)
        one[3] = -40
        self.assert_list(self.call(one, other), self.by_the_words([1, 2, 3, -40], [5, 6, 7, 8]))
        other[0] = 50
        self.assert_list(self.call(one, other), self.by_the_words([1, 2, 3, -40], [50, 6, 7, 8]))

    def test_bad_tables(self):
        for thing in no_tables():
            self.assert_refused(BadTable, self.call, thing, [1, 2])
            self.assert_refused(BadTable, self.call, [1, 2], thing)
            if isinstance(thing, list) and thing:
                self.assert_refused(BadTable, self.call, thing, [1] * len(thing))
                self.assert_refused(BadTable, self.call, [1] * len(thing), thing)

    def test_two_bad_tables(self):
        for thing in no_tables():
            self.assert_refused(BadTable, self.call, thing, [])
            self.assert_refused(BadTable, self.call, thing, None)
            self.assert_refused(BadTable, self.call, [1, 2, 3], thing)
            self.assert_refused(BadTable, self.call, thing, thing)

    def test_unlike(self):
        for many in range(11):
            for other in range(11):
                if many != other:
                    self.assert_refused(Unlike, self.call, [1] * 2 ** many, [1] * 2 ** other)
                    self.assert_refused(Unlike, self.call, [0] * 2 ** many, [0] * 2 ** other)

    def test_unlike_stands_behind_both_tables(self):
        for many in range(5):
            for other in range(5):
                for place in range(2 ** many):
                    wrong = [1] * 2 ** many
                    wrong[place] = True
                    self.assert_refused(BadTable, self.call, wrong, [1] * 2 ** other)
                    self.assert_refused(BadTable, self.call, [1] * 2 ** other, wrong)
        for wrong in ([], [1, 2, 3], [None], "12", None):
            self.assert_refused(BadTable, self.call, [1, 1], wrong)
            self.assert_refused(BadTable, self.call, wrong, [1, 1])

    def test_a_refusal_changes_nothing(self):
        wanted = self.by_the_words([1, 2], [3, 4])
        for one, other in (([1, True], [3, 4]), ([1, 2], [3, None]), ([1, 2], [3]), ([1], [3, 4])):
            self.assert_refused(BadTable if len(one) == len(other) else Unlike, self.call, one, other)
            self.assert_list(self.call([1, 2], [3, 4]), wanted)


class JoinedTest(ProductTest, SetsumsTest):
    def call(self, one, other):
        return joined(one, other)

    def together(self, names, other):
        return names | other

    def nothing_done(self, length):
        return 0

    def test_ordinary_tables(self):
        self.assert_list(joined([3], [-5]), [-15])
        self.assert_list(joined([1, 2], [10, 100]), [10, 320])
        self.assert_list(joined([1, 2, 3, 4], [1, 0, 0, 10]), [1, 2, 3, 104])


class MetTest(ProductTest, SetsumsTest):
    def call(self, one, other):
        return met(one, other)

    def together(self, names, other):
        return names & other

    def nothing_done(self, length):
        return length - 1

    def test_ordinary_tables(self):
        self.assert_list(met([3], [-5]), [-15])
        self.assert_list(met([1, 2], [10, 100]), [130, 200])
        self.assert_list(met([1, 2, 3, 4], [1, 0, 0, 10]), [20, 20, 30, 40])


class ApartTest(ProductTest, SetsumsTest):
    def call(self, one, other):
        return apart(one, other)

    def together(self, names, other):
        return None if names & other else names | other

    def nothing_done(self, length):
        return 0

    def test_ordinary_tables(self):
        self.assert_list(apart([3], [-5]), [-15])
        self.assert_list(apart([1, 2], [10, 100]), [10, 120])
        self.assert_list(apart([1, 2, 3, 4], [1, 10, 100, 0]), [1, 12, 103, 234])


class CrossedTest(ProductTest, SetsumsTest):
    def call(self, one, other):
        return crossed(one, other)

    def together(self, names, other):
        return names ^ other

    def nothing_done(self, length):
        return 0

    def test_ordinary_tables(self):
        self.assert_list(crossed([3], [-5]), [-15])
        self.assert_list(crossed([1, 2], [10, 100]), [210, 120])
        self.assert_list(crossed([1, 2, 3, 4], [1, 10, 100, 0]), [321, 412, 143, 234])


if __name__ == "__main__":
    unittest.main()
