"""setsums/book.py: point [9], and points [1] and [3] as far as they speak of it."""

import random
import time
import unittest

from helper import SetsumsTest, names_in, no_counts, no_names, no_sets, no_wholes
from setsums.book import Book
from setsums.errors import BadCount, BadName, BadNumber, BadSet, NothingDone

LARGE = 10 ** 3999


class Notes:
    """A book kept in another way: by sets of names, and with all that stood before each put and swap."""

    def __init__(self, many):
        self.numbers = {frozenset(names_in(one)): 0 for one in range(2 ** many)}
        self.earlier = []

    def put(self, one, number):
        self.earlier.append(dict(self.numbers))
        self.numbers[frozenset(names_in(one))] += number

    def swap(self, name, other):
        self.earlier.append(self.numbers)
        turned = {name: other, other: name}
        self.numbers = {
            frozenset(turned.get(each, each) for each in names): number
            for names, number in self.numbers.items()
        }

    def undo(self):
        self.numbers = self.earlier.pop()

    def value(self, one):
        return self.numbers[frozenset(names_in(one))]

    def under(self, one):
        names = frozenset(names_in(one))
        return sum(number for others, number in self.numbers.items() if others <= names)

    def over(self, one):
        names = frozenset(names_in(one))
        return sum(number for others, number in self.numbers.items() if names <= others)

    def table(self):
        return [self.value(one) for one in range(len(self.numbers))]


class BookCase(SetsumsTest):
    def assert_table(self, book, wanted, done):
        self.assert_list(book.table(), wanted)
        self.assert_number(book.many_done(), done)

    def assert_like(self, book, notes, sets):
        """The book tells what the notes tell, of these sets."""
        self.assert_table(book, notes.table(), len(notes.earlier))
        for one in sets:
            self.assert_number(book.value(one), notes.value(one))
            self.assert_number(book.under(one), notes.under(one))
            self.assert_number(book.over(one), notes.over(one))

    def filled(self, many):
        """A book in which something was done, and with it notes of the same."""
        book, notes = Book(many), Notes(many)
        for kept in (book, notes):
            kept.put(0, 4)
            kept.put(2 ** many - 1, -7)
            if many > 0:
                kept.swap(0, many - 1)
            kept.put(2 ** many // 2, LARGE)
        return book, notes

    def assert_refused_and_unchanged(self, refusal, book, notes, call, *handed):
        self.assert_refused(refusal, call, *handed)
        self.assert_table(book, notes.table(), len(notes.earlier))


class OrdinaryTest(BookCase):
    def test_a_new_book_has_noughts(self):
        for many in range(11):
            book = Book(many)
            self.assert_table(book, [0] * 2 ** many, 0)
            for one in (0, 2 ** many // 2, 2 ** many - 1):
                self.assert_number(book.value(one), 0)
                self.assert_number(book.under(one), 0)
                self.assert_number(book.over(one), 0)

    def test_put(self):
        book = Book(2)
        self.assertIsNone(book.put(3, 5))
        self.assert_table(book, [0, 0, 0, 5], 1)
        self.assertIsNone(book.put(3, -7))
        self.assert_table(book, [0, 0, 0, -2], 2)
        book.put(1, LARGE)
        self.assert_table(book, [0, LARGE, 0, -2], 3)

    def test_swap(self):
        book = Book(3)
        for one in range(8):
            book.put(one, 10 + one)
        self.assertIsNone(book.swap(0, 2))
        self.assert_table(book, [10, 14, 12, 16, 11, 15, 13, 17], 9)
        book.swap(1, 0)
        self.assert_table(book, [10, 12, 14, 16, 11, 13, 15, 17], 10)

    def test_what_is_put_behind_a_swap_goes_to_the_set_that_is_named(self):
        book = Book(2)
        book.put(1, 5)
        book.swap(0, 1)
        book.put(1, 7)
        self.assert_table(book, [0, 7, 5, 0], 3)
        book.swap(1, 0)
        self.assert_table(book, [0, 5, 7, 0], 4)

    def test_value_under_and_over(self):
        book = Book(2)
        for one, number in enumerate([1, 20, 300, 4000]):
            book.put(one, number)
        self.assertEqual([book.value(one) for one in range(4)], [1, 20, 300, 4000])
        self.assertEqual([book.under(one) for one in range(4)], [1, 21, 301, 4321])
        self.assertEqual([book.over(one) for one in range(4)], [4321, 4020, 4300, 4000])

    def test_undo(self):
        book = Book(2)
        book.put(1, 5)
        book.swap(0, 1)
        book.put(1, 7)
        self.assertIsNone(book.undo())
        self.assert_table(book, [0, 0, 5, 0], 2)
        book.undo()
        self.assert_table(book, [0, 5, 0, 0], 1)
        book.undo()
        self.assert_table(book, [0, 0, 0, 0], 0)
        self.assert_refused(NothingDone, book.undo)

    def test_what_is_taken_back_stands_no_more(self):
        book = Book(1)
        book.put(0, 1)
        book.put(0, 20)
        book.undo()
        book.put(0, 300)
        self.assert_table(book, [301, 0], 2)
        book.undo()
        self.assert_table(book, [1, 0], 1)
        book.undo()
        self.assert_table(book, [0, 0], 0)
        self.assert_refused(NothingDone, book.undo)

    def test_a_nought_that_is_put_stands(self):
        book = Book(1)
        book.put(1, 6)
        book.put(1, 0)
        self.assert_table(book, [0, 6], 2)
        book.undo()
        self.assert_table(book, [0, 6], 1)
        book.undo()
        self.assert_table(book, [0, 0], 0)

    def test_a_name_with_itself(self):
        for many in range(1, 11):
            for name in range(many):
                book = Book(many)
                book.put(2 ** name, 3)
                wanted = book.table()
                self.assertIsNone(book.swap(name, name))
                self.assert_table(book, wanted, 2)
                book.undo()
                self.assert_table(book, wanted, 1)
                book.undo()
                self.assert_table(book, [0] * 2 ** many, 0)

    def test_swaps_in_a_row_are_taken_back_one_by_one(self):
        book = Book(3)
        book.put(1, 9)
        told = []
        swaps = [(0, 1), (1, 2), (2, 2), (0, 2), (1, 0), (1, 0)]
        for name, other in swaps:
            told.append(book.table())
            book.swap(name, other)
        while told:
            book.undo()
            wanted = told.pop()
            self.assert_table(book, wanted, 1 + len(told))

    def test_each_swap_either_way_round(self):
        for many in range(1, 6):
            for name in range(many):
                for other in range(many):
                    books = [Book(many), Book(many)]
                    notes = Notes(many)
                    for kept in books + [notes]:
                        for one in range(2 ** many):
                            kept.put(one, one * one + 1)
                    books[0].swap(name, other)
                    books[1].swap(other, name)
                    notes.swap(name, other)
                    for book in books:
                        self.assert_like(book, notes, [])

    def test_no_names(self):
        book = Book(0)
        book.put(0, 5)
        book.put(0, -8)
        self.assert_table(book, [-3], 2)
        for told in (book.value(0), book.under(0), book.over(0)):
            self.assert_number(told, -3)
        self.assert_refused(BadName, book.swap, 0, 0)
        book.undo()
        self.assert_table(book, [5], 1)

    def test_ten_names(self):
        book = Book(10)
        book.put(1023, 5)
        book.put(512, 3)
        book.swap(9, 0)
        self.assert_number(book.value(1), 3)
        self.assert_number(book.value(512), 0)
        self.assert_number(book.under(1023), 8)
        self.assert_number(book.over(1), 8)
        self.assert_number(book.over(512), 5)

    def test_very_large_numbers(self):
        book = Book(1)
        book.put(0, LARGE)
        book.put(1, -LARGE)
        book.put(0, 1)
        self.assert_number(book.under(1), 1)
        self.assert_number(book.over(0), 1)
        book.undo()
        self.assert_table(book, [LARGE, -LARGE], 2)


class LongTest(BookCase):
    def test_any_puts_swaps_and_undos(self):
        for many in range(7):
            source = random.Random(many)
            book, notes = Book(many), Notes(many)
            for _ in range(250):
                self.do_something(source, many, book, notes)
                self.assert_like(book, notes, [source.randrange(2 ** many)])
            self.assert_like(book, notes, range(2 ** many))
            while notes.earlier:
                book.undo()
                notes.undo()
                self.assert_like(book, notes, [source.randrange(2 ** many)])
            self.assert_table(book, [0] * 2 ** many, 0)
            self.assert_refused(NothingDone, book.undo)

    def test_any_puts_swaps_and_undos_of_ten_names(self):
        source = random.Random(10)
        book, notes = Book(10), Notes(10)
        for _ in range(120):
            self.do_something(source, 10, book, notes)
            self.assert_like(book, notes, [source.randrange(1024)])

    def do_something(self, source, many, book, notes):
        """One drawn thing done to both."""
        what = source.choice(("put", "put", "put", "swap", "swap", "undo"))
        if what == "put":
            one, number = source.randrange(2 ** many), source.choice((1, -2, 0, 10 ** 60, source.randint(-9, 9)))
            book.put(one, number)
            notes.put(one, number)
        elif what == "swap" and many > 0:
            name, other = source.randrange(many), source.randrange(many)
            book.swap(name, other)
            notes.swap(name, other)
        elif what == "undo" and notes.earlier:
            book.undo()
            notes.undo()

    def test_very_many_puts_and_swaps_within_a_short_time(self):
        book = Book(10)
        start = time.process_time()
        for one in range(1000):
            book.put(one, one + 1)
            book.swap(one % 10, one * 7 % 10)
        self.assert_number(book.many_done(), 2000)
        self.assert_number(book.under(1023), 500500)
        for _ in range(2000):
            book.undo()
        self.assertLess(time.process_time() - start, 5)
        self.assert_table(book, [0] * 1024, 0)


class OwnTest(BookCase):
    def test_the_table_told_is_the_askers_own(self):
        for many in range(11):
            book, notes = self.filled(many)
            told = book.table()
            told[0] = -99
            told.append(5)
            self.assert_like(book, notes, [0])
            told = book.table()
            told.clear()
            self.assert_like(book, notes, [0, 2 ** many - 1])

    def test_nothing_done_later_changes_the_table_told(self):
        book = Book(2)
        book.put(1, 5)
        told = book.table()
        self.assertIsNot(book.table(), told)
        book.put(0, 7)
        self.assert_list(told, [0, 5, 0, 0])
        book.swap(0, 1)
        self.assert_list(told, [0, 5, 0, 0])
        told_later = book.table()
        book.undo()
        book.undo()
        book.undo()
        self.assert_list(told, [0, 5, 0, 0])
        self.assert_list(told_later, [7, 0, 5, 0])

    def test_what_is_told_of_numbers_changes_nothing(self):
        for many in range(7):
            book, notes = self.filled(many)
            for _ in range(2):
                self.assert_like(book, notes, range(2 ** many))

    def test_books_share_nothing(self):
        one, other = Book(2), Book(2)
        one.put(1, 5)
        self.assert_table(other, [0, 0, 0, 0], 0)
        self.assert_refused(NothingDone, other.undo)
        other.put(3, 6)
        other.swap(0, 1)
        self.assert_table(one, [0, 5, 0, 0], 1)
        one.undo()
        self.assert_table(other, [0, 0, 0, 6], 2)
        self.assert_table(Book(2), [0, 0, 0, 0], 0)


class RefusedTest(BookCase):
    def test_bad_counts(self):
        for thing in no_counts():
            self.assert_refused(BadCount, Book, thing)

    def test_bad_sets(self):
        for many in range(11):
            book, notes = self.filled(many)
            for thing in no_sets(many):
                for call in (book.value, book.under, book.over):
                    self.assert_refused_and_unchanged(BadSet, book, notes, call, thing)
                for number in (0, 5, LARGE, None, True, "5"):
                    self.assert_refused_and_unchanged(BadSet, book, notes, book.put, thing, number)

    def test_bad_numbers(self):
        for many in range(11):
            book, notes = self.filled(many)
            for thing in no_wholes():
                for one in (0, 2 ** many - 1):
                    self.assert_refused_and_unchanged(BadNumber, book, notes, book.put, one, thing)

    def test_bad_names(self):
        for many in range(11):
            book, notes = self.filled(many)
            for thing in no_names(many):
                self.assert_refused_and_unchanged(BadName, book, notes, book.swap, thing, thing)
                for name in range(many):
                    self.assert_refused_and_unchanged(BadName, book, notes, book.swap, thing, name)
                    self.assert_refused_and_unchanged(BadName, book, notes, book.swap, name, thing)

    def test_nothing_to_take_back(self):
        for many in range(11):
            book = Book(many)
            for _ in range(3):
                self.assert_refused(NothingDone, book.undo)
                self.assert_table(book, [0] * 2 ** many, 0)
            book.put(0, 5)
            self.assert_table(book, [5] + [0] * (2 ** many - 1), 1)
            book.undo()
            self.assert_refused(NothingDone, book.undo)
            self.assert_table(book, [0] * 2 ** many, 0)

    def test_what_is_refused_cannot_be_taken_back(self):
        for many in range(1, 11):
            book, notes = self.filled(many)
            self.assert_refused(BadSet, book.put, 2 ** many, 5)
            self.assert_refused(BadNumber, book.put, 0, True)
            self.assert_refused(BadName, book.swap, 0, many)
            self.assert_refused(BadName, book.swap, many, 0)
            while notes.earlier:
                book.undo()
                notes.undo()
                self.assert_like(book, notes, [0])
            self.assert_refused(NothingDone, book.undo)


if __name__ == "__main__":
    unittest.main()
