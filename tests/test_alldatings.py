"""Tests of [7.10]."""

from earliestlots.alldatings import all_datings, count_datings, dating_of_number, number_of_dating
from earliestlots.books import Book
from earliestlots.errors import BadNumber, BadStanding, NotFit, TooMany
from earliestlots.named import (
    after_all_of, after_one_of, before_relation, between_relation, tied_relation, unlike_relation)
from earliestlots.relations import Relation
from tests.helper import NO_NUMBERS, NO_STANDINGS_OF_2, Checks, datings_as_told, some_books, standings_by_trying

BEFORE = before_relation()
SIZES = ((0, 1), (1, 5), (2, 20), (3, 40), (4, 25), (5, 4))
BOOKS = [book for way in ("any", "lesser") for size, many in SIZES for book in some_books(way, size, many, 4)]
EXAMPLE = Book(3, [(after_all_of(2), (1, 0)), (after_one_of(3), (2, 0, 1))])
LOOP = Book(2, [(BEFORE, (0, 1)), (BEFORE, (1, 0))])
LARGE = Book(7, [(BEFORE, (0, 1))])


class AllDatingsTests(Checks):

    def test_against_all_standings(self):
        counts = {}
        for book in BOOKS:
            wanted = datings_as_told(book)
            self.same(list(all_datings(book)), wanted)
            self.same(count_datings(book), len(wanted))
            counts[len(wanted)] = counts.get(len(wanted), 0) + 1
        self.assertGreater(counts[0], 10)
        self.assertGreater(len(counts), 10)

    def test_examples(self):
        self.same(list(all_datings(EXAMPLE)), [(0, 1, 1), (0, 1, 2), (0, 2, 1)])
        self.same(list(all_datings(Book(3, [(between_relation(), (0, 1, 2))]))), [(0, 1, 2), (2, 1, 0)])
        self.same(list(all_datings(LOOP)), [])
        self.same(count_datings(LOOP), 0)

    def test_0_dates(self):
        self.same(list(all_datings(Book(0, ()))), [()])
        self.same(count_datings(Book(0, ())), 1)
        self.same(number_of_dating(Book(0, ()), []), 0)
        self.same(dating_of_number(Book(0, ()), 0), ())

    def test_6_dates(self):
        self.same(count_datings(Book(6, ())), 4683)
        book = Book(6, [(tied_relation(), (0, 5)), (unlike_relation(), (1, 5))])
        wanted = [row for row in standings_by_trying(6) if row[0] == row[5] != row[1]]
        self.same(list(all_datings(book)), wanted)
        self.same(number_of_dating(book, wanted[-1]), len(wanted) - 1)
        self.same(dating_of_number(book, 77), wanted[77])

    def test_7_dates_are_too_many(self):
        self.wrong(TooMany, {"most": 6}, lambda book: list(all_datings(book)), LARGE)
        self.wrong(TooMany, {"most": 6}, count_datings, LARGE)
        self.wrong(TooMany, {"most": 6}, dating_of_number, LARGE, None)
        self.wrong(TooMany, {"most": 6}, dating_of_number, LARGE, 0)
        self.wrong(TooMany, {"most": 6}, number_of_dating, LARGE, (0, 1, 2, 3, 4, 5, 6))
        self.wrong(TooMany, {"most": 6}, number_of_dating, LARGE, (0,) * 7)
        self.wrong(BadStanding, {"index": -1}, number_of_dating, LARGE, (0,) * 6)
        self.wrong(BadStanding, {"index": 6}, number_of_dating, LARGE, (0,) * 6 + (True,))

    def test_nothing_is_changed(self):
        self.unchanged(lambda book: list(all_datings(book)), EXAMPLE)
        self.unchanged(count_datings, EXAMPLE)
        self.unchanged(number_of_dating, EXAMPLE, [0, 1, 2])
        self.unchanged(dating_of_number, EXAMPLE, 2)


class NumberTests(Checks):

    def test_there_and_back(self):
        for book in BOOKS[::2]:
            for number, dating in enumerate(datings_as_told(book)[:60]):
                self.same(number_of_dating(book, dating), number)
                self.same(number_of_dating(book, list(dating)), number)
                self.same(dating_of_number(book, number), dating)

    def test_no_dating(self):
        for book in BOOKS[::2]:
            datings = datings_as_told(book)
            for standing in standings_by_trying(book.size)[:40]:
                if standing not in datings:
                    self.wrong(NotFit, {}, number_of_dating, book, standing)
            for number in (len(datings), len(datings) + 5, -1, True, False):
                self.wrong(BadNumber, {}, dating_of_number, book, number)

    def test_wrong_values(self):
        for wrong, index in NO_STANDINGS_OF_2:
            self.wrong(BadStanding, {"index": index}, number_of_dating, LOOP, wrong)
        self.wrong(NotFit, {}, number_of_dating, LOOP, (0, 1))
        for wrong in NO_NUMBERS:
            self.wrong(BadNumber, {}, dating_of_number, EXAMPLE, wrong)
            self.wrong(BadNumber, {}, dating_of_number, LOOP, wrong)
        self.wrong(BadNumber, {}, dating_of_number, LOOP, 0)
        self.wrong(BadNumber, {}, dating_of_number, EXAMPLE, 3)
        self.wrong(BadNumber, {}, dating_of_number, Book(1, [(Relation(1, ()), (0,))]), 0)
