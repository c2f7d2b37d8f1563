"""What the document promises over several modules together."""

import random
import unittest

from helper import SetsumsTest, drawn_order, drawn_table, drawn_tables, names_in, set_with
from setsums.book import Book
from setsums.covers import covers, fewest, least_cover
from setsums.errors import BadTable, NoCover
from setsums.names import parted, reordered, with_name
from setsums.products import apart, crossed, joined, met
from setsums.ranks import from_ranked, ranked
from setsums.sets import is_part, members, set_of, size_of
from setsums.sums import above, below, from_above, from_below, from_signed, signed
from setsums.tables import added, blank, contrary, lone, multiplied, names_of


def less(one, other):
    """The one table, less the other."""
    return [left - right for left, right in zip(one, other)]


def all_added(tables):
    total = tables[0]
    for table in tables[1:]:
        total = added(total, table)
    return total


class NamesToldOtherwiseTest(SetsumsTest):
    """It is all one whether names are told otherwise before or behind something else."""

    def tables_and_orders(self, seed):
        source = random.Random(seed)
        for many in range(8):
            for table in drawn_tables(source, many):
                yield table, drawn_order(source, many)
        yield drawn_table(source, 10), drawn_order(source, 10)

    def pairs_and_orders(self, seed):
        source = random.Random(seed)
        for many in range(7):
            for one in drawn_tables(source, many):
                yield one, drawn_table(source, many), drawn_order(source, many)
        yield drawn_table(source, 10), drawn_table(source, 10), drawn_order(source, 10)

    def test_sums_and_the_ways_back(self):
        for table, order in self.tables_and_orders(1):
            for call in (below, above, signed, from_below, from_above, contrary):
                self.assert_list(call(reordered(table, order)), reordered(call(table), order))
            sums = reordered(signed(table), order)
            self.assert_list(from_signed(sums), reordered(table, order))

    def test_what_are_no_signed_sums_stay_so(self):
        for table, order in self.tables_and_orders(2):
            if order:
                sums = signed(table)
                sums[-1] += 1
                self.assert_refused(BadTable, from_signed, reordered(sums, order))

    def test_sums_by_sizes(self):
        for table, order in self.tables_and_orders(3):
            told = ranked(reordered(table, order))
            wanted = [reordered(sums, order) for sums in ranked(table)]
            self.assertEqual(len(told), len(wanted))
            for one, other in zip(told, wanted):
                self.assert_list(one, other)

    def test_the_way_back_from_sums_by_sizes(self):
        source = random.Random(4)
        for many in range(8):
            tables = [drawn_table(source, many) for _ in range(many + 1)]
            order = drawn_order(source, many)
            turned = [reordered(table, order) for table in tables]
            self.assert_list(from_ranked(turned), reordered(from_ranked(tables), order))

    def test_two_tables_put_together(self):
        for one, other, order in self.pairs_and_orders(5):
            for call in (joined, met, apart, crossed, added, multiplied):
                told = call(reordered(one, order), reordered(other, order))
                self.assert_list(told, reordered(call(one, other), order))

    def test_one_set_alone(self):
        source = random.Random(6)
        for many in range(11):
            order = drawn_order(source, many)
            self.assert_list(reordered(blank(many), order), blank(many))
            for one in (0, 2 ** many // 2, 2 ** many - 1, source.randrange(2 ** many)):
                place = set_of([order.index(name) for name in members(one)])
                self.assert_list(reordered(lone(many, one), order), lone(many, place))

    def test_a_name_put_and_moved(self):
        source = random.Random(7)
        for many in range(10):
            without, holding = drawn_table(source, many), drawn_table(source, many)
            for name in range(many + 1):
                last = with_name(without, holding, many)
                order = [place if place < name else place - 1 for place in range(many + 1)]
                order[name] = many
                self.assert_list(reordered(last, order), with_name(without, holding, name))

    def test_covers(self):
        source = random.Random(8)
        for many in range(11):
            sets = [source.randrange(2 ** many) for _ in range(12)]
            order = drawn_order(source, many)
            turned = [set_of([order.index(name) for name in members(one)]) for one in sets]
            for long in (0, 1, 2, 5, 20):
                self.assert_number(covers(many, turned, long), covers(many, sets, long))
            if covers(many, sets, 12) == 0:
                self.assert_refused(NoCover, least_cover, many, turned)
            else:
                self.assert_list(least_cover(many, turned), least_cover(many, sets))


class OneMoreNameTest(SetsumsTest):
    """What sums and tables put together are of a table of one more name, told of its two parts."""

    def halves(self, seed):
        source = random.Random(seed)
        for many in list(range(6)) + [9]:
            for name in sorted({0, many // 2, many}):
                yield [drawn_table(source, many) for _ in range(4)], name

    def assert_parts(self, table, name, without, holding):
        told, other_told = parted(table, name)
        self.assert_list(told, without)
        self.assert_list(other_told, holding)

    def test_sums(self):
        for (without, holding, _, _), name in self.halves(11):
            table = with_name(without, holding, name)
            self.assertEqual(names_of(table), names_of(without) + 1)
            both = added(without, holding)
            self.assert_parts(below(table), name, below(without), below(both))
            self.assert_parts(above(table), name, above(both), above(holding))
            self.assert_parts(signed(table), name, signed(both), signed(less(without, holding)))
            self.assert_parts(from_below(table), name, from_below(without), from_below(less(holding, without)))
            self.assert_parts(from_above(table), name, from_above(less(without, holding)), from_above(holding))
            self.assert_parts(contrary(table), name, contrary(holding), contrary(without))

    def test_sums_by_sizes(self):
        for (without, holding, _, _), name in self.halves(12):
            noughts = [0] * len(without)
            of_without = ranked(without) + [noughts]
            of_holding = [noughts] + ranked(holding)
            told = ranked(with_name(without, holding, name))
            self.assertEqual(len(told), len(of_without))
            for table, sums, more in zip(told, of_without, of_holding):
                self.assert_parts(table, name, sums, added(sums, more))

    def test_two_tables_put_together(self):
        for (one, one_holding, other, other_holding), name in self.halves(13):
            left, right = with_name(one, one_holding, name), with_name(other, other_holding, name)

            def ways(call):
                """Put together without the name, in the one alone, in the other alone, in both."""
                return (call(one, other), call(one_holding, other), call(one, other_holding),
                        call(one_holding, other_holding))

            none, left_alone, right_alone, both = ways(joined)
            self.assert_parts(joined(left, right), name, none, all_added([left_alone, right_alone, both]))
            none, left_alone, right_alone, both = ways(met)
            self.assert_parts(met(left, right), name, all_added([none, left_alone, right_alone]), both)
            none, left_alone, right_alone, both = ways(apart)
            self.assert_parts(apart(left, right), name, none, added(left_alone, right_alone))
            none, left_alone, right_alone, both = ways(crossed)
            self.assert_parts(crossed(left, right), name, added(none, both), added(left_alone, right_alone))


class CoversTogetherTest(SetsumsTest):
    def test_rows_that_cover_are_a_table_of_the_sets_joined_with_itself(self):
        source = random.Random(21)
        for many in range(8):
            sets = [source.randrange(2 ** many) for _ in range(9)]
            each = all_added([lone(many, one) for one in sets])
            rows = lone(many, 0)
            for long in range(8):
                self.assert_number(covers(many, sets, long), rows[-1])
                rows = joined(rows, each)

    def test_a_least_cover_is_joined_to_all_names(self):
        source = random.Random(22)
        for many in range(11):
            sets = [source.randrange(2 ** many) for _ in range(15)] + [2 ** name for name in range(many)]
            row = least_cover(many, sets)
            self.assertEqual(len(row), fewest(many, sets))
            together = set_with(name for place in row for name in members(sets[place]))
            self.assert_number(together, 2 ** many - 1)


class BookTogetherTest(SetsumsTest):
    def test_a_book_tells_what_its_table_tells(self):
        source = random.Random(31)
        for many in range(11):
            book = Book(many)
            wanted = blank(many)
            for _ in range(8):
                one, number = source.randrange(2 ** many), source.randint(-99, 99)
                book.put(one, number)
                wanted = added(wanted, [number * times for times in lone(many, one)])
                if many > 0:
                    name, other = source.randrange(many), source.randrange(many)
                    book.swap(name, other)
                    order = list(range(many))
                    order[name], order[other] = other, name
                    wanted = reordered(wanted, order)
                self.assert_list(book.table(), wanted)
            sums, sums_round = below(wanted), above(wanted)
            for one in range(2 ** many):
                self.assert_number(book.value(one), wanted[one])
                self.assert_number(book.under(one), sums[one])
                self.assert_number(book.over(one), sums_round[one])

    def test_a_book_is_not_changed_by_what_else_is_asked(self):
        book = Book(3)
        for one in range(8):
            book.put(one, one - 3)
        table = book.table()
        for call in (below, above, signed, from_below, from_above, contrary, ranked):
            call(table).clear()
        for call in (joined, met, apart, crossed, added, multiplied):
            call(table, table).clear()
        parted(table, 1)[0].clear()
        with_name(table, table, 0).clear()
        reordered(table, [0, 1, 2]).clear()
        self.assert_list(table, [-3, -2, -1, 0, 1, 2, 3, 4])
        self.assert_list(book.table(), table)
        table.clear()
        self.assert_list(book.table(), [-3, -2, -1, 0, 1, 2, 3, 4])


class SetsTogetherTest(SetsumsTest):
    def test_sizes_and_parts_of_sets_told_otherwise(self):
        source = random.Random(41)
        for _ in range(200):
            order = drawn_order(source, 10)
            one, other = source.randrange(1024), source.choice((0, 1023, source.randrange(1024)))
            one &= source.choice((other, 1023))
            turned, other_turned = (set_of([order[name] for name in names_in(each)]) for each in (one, other))
            self.assertEqual(size_of(turned), size_of(one))
            self.assertIs(is_part(turned, other_turned), is_part(one, other))


if __name__ == "__main__":
    unittest.main()
