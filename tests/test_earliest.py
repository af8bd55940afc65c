"""Tests of [7.1] and [7.2]."""

import random

from earliestlots.books import Book, book_with, equal_book, turned_book
from earliestlots.closings import kept_by_lots
from earliestlots.earliest import earliest_dates, latest_dates, not_lesser
from earliestlots.errors import NotLesser
from earliestlots.named import (
    after_all_of, after_one_of, before_relation, not_after_relation, two_first_relation, unlike_relation)
from earliestlots.papers import Stuck, paper_fault, strip_fault
from earliestlots.relations import Relation
from earliestlots.stripping import all_fitting, knot_of, left_of
from tests.helper import Checks, datings_as_told, ranked, some_books, some_fact

BEFORE = before_relation()
SIZES = ((0, 1), (1, 6), (2, 20), (3, 40), (4, 40), (5, 20), (7, 8))
LESSER = [book for size, many in SIZES for book in some_books("lesser", size, many, 5)]
ANY = [book for size, many in SIZES for book in some_books("any", size, many, 4)]
COMMON = [book for size, many in SIZES for book in some_books("common", size, many, 3)]


def turned(standing):
    return tuple(max(standing, default=0) - rank for rank in standing)


def not_lesser_as_told(book):
    wrong = [number for number, (relation, _) in enumerate(equal_book(book).facts)
             if not kept_by_lots(relation, "lesser")]
    return wrong[0] if wrong else None


class NotLesserTests(Checks):

    def test_the_first_fact(self):
        for book in LESSER:
            self.same(not_lesser(book), None)
        for book in ANY + COMMON:
            self.same(not_lesser(book), not_lesser_as_told(book))

    def test_facts_are_made_equal(self):
        unlike = (unlike_relation(), (0, 1))
        self.same(not_lesser(Book(2, [(BEFORE, (0, 1)), unlike, unlike])), 1)
        self.same(not_lesser(Book(2, [(unlike_relation(), (0, 0))])), None)
        self.same(not_lesser(Book(3, [(two_first_relation(), (0, 1, 0))])), None)
        self.same(not_lesser(Book(3, [(two_first_relation(), (0, 1, 2))])), 0)
        self.same(not_lesser(Book(0, ())), None)


class EarliestTests(Checks):

    def check_stuck(self, book, outcome):
        """Greatest lots were taken, and a struck paper shows that none fits behind them."""
        self.assertIs(type(outcome), Stuck)
        left = left_of(book)
        while all_fitting(left):
            left = left.take_lot(all_fitting(left)[-1])
        self.same(outcome.lots, left.lots)
        self.same(outcome.dates, left.dates)
        self.same(outcome.dates, knot_of(book))
        self.assertEqual(outcome.paper[0], "struck")
        self.assertIsNone(paper_fault(left, outcome.paper))
        self.assertIsNone(strip_fault(book, outcome))

    def test_no_date_is_later_than_in_any_other_dating(self):
        stuck = 0
        for book in LESSER:
            outcome = earliest_dates(book)
            datings = datings_as_told(book) if book.size < 6 else None
            if isinstance(outcome, Stuck):
                stuck += 1
                self.check_stuck(book, outcome)
                self.assertIn(datings, ([], None))
                continue
            self.same(outcome, ranked(outcome))
            if datings is not None:
                self.assertIn(outcome, datings)
                self.assertEqual(outcome, datings[0])
                self.assertEqual(outcome, tuple(map(min, *datings)) if len(datings) > 1 else datings[0])
        self.assertGreater(stuck, 20)
        self.assertGreater(len(LESSER) - stuck, 20)

    def test_each_date_has_the_number_of_its_round(self):
        for book in LESSER:
            outcome = earliest_dates(book)
            left = left_of(book)
            numbers = {}
            while all_fitting(left):
                for date in all_fitting(left)[-1]:
                    numbers[date] = len(left.lots)
                left = left.take_lot(all_fitting(left)[-1])
            if not isinstance(outcome, Stuck):
                self.same(outcome, tuple(numbers[date] for date in range(book.size)))

    def test_a_fact_more_makes_no_date_earlier(self):
        picker = random.Random(72)
        later = 0
        for book in LESSER:
            if book.size > 0 and not isinstance(earliest_dates(book), Stuck):
                more = book_with(book, some_fact(picker, "lesser", book.size))
                if not isinstance(earliest_dates(more), Stuck):
                    self.assertTrue(all(one <= other for one, other in zip(earliest_dates(book), earliest_dates(more))))
                    later += earliest_dates(book) != earliest_dates(more)
        self.assertGreater(later, 5)

    def test_examples(self):
        book = Book(3, [(after_all_of(2), (1, 0)), (after_one_of(3), (2, 0, 1))])
        self.same(earliest_dates(book), (0, 1, 1))
        self.same(latest_dates(Book(2, [(BEFORE, (0, 1))])), (0, 1))
        self.assertEqual(earliest_dates(Book(2, [(BEFORE, (0, 1)), (BEFORE, (1, 0))])),
                         Stuck((), (0, 1), ("struck", ((0, 1), (1, 0)))))

    def test_without_dates_or_facts(self):
        for call in (earliest_dates, latest_dates):
            self.same(call(Book(0, ())), ())
            self.same(call(Book(7, ())), (0,) * 7)

    def test_not_lesser(self):
        for book in ANY + COMMON:
            if not_lesser_as_told(book) is not None:
                self.wrong(NotLesser, {"fact": not_lesser_as_told(book)}, earliest_dates, book)
        unlike = (unlike_relation(), (0, 1))
        self.wrong(NotLesser, {"fact": 1}, earliest_dates, Book(2, [(BEFORE, (0, 0)), unlike, unlike]))

    def test_nothing_is_changed(self):
        book = Book(3, [(after_all_of(2), (1, 0)), (after_one_of(3), (2, 0, 1))])
        for call in (not_lesser, earliest_dates):
            self.unchanged(call, book)
        self.unchanged(latest_dates, Book(3, [(BEFORE, (1, 0)), (not_after_relation(), (2, 0))]))


class LatestTests(Checks):

    def test_turned(self):
        found = 0
        for book in LESSER + ANY + COMMON + [turned_book(row) for row in LESSER]:
            other = turned_book(book)
            fact = not_lesser_as_told(other)
            if fact is not None:
                self.wrong(NotLesser, {"fact": fact}, latest_dates, book)
                continue
            found += 1
            outcome = latest_dates(book)
            wanted = earliest_dates(other)
            if isinstance(wanted, Stuck):
                self.assertEqual(outcome, wanted)
            else:
                self.same(outcome, turned(wanted))
                self.check_latest(book, outcome)
        self.assertGreater(found, 100)

    def check_latest(self, book, outcome):
        """No date is farther from the greatest rank than in any dating."""
        if book.size < 6:
            datings = datings_as_told(book)
            self.assertIn(outcome, datings)
            for dating in datings:
                self.assertTrue(all(one <= other for one, other in zip(turned(outcome), turned(dating))))

    def test_the_book_itself_need_not_be_lesser(self):
        # Ahead of one of the others: turned it is after one of them, which lesser keeps.
        relation = Relation(3, [(0, 1, 0), (0, 0, 1), (0, 1, 1), (0, 1, 2), (0, 2, 1), (1, 0, 2), (1, 2, 0)])
        book = Book(3, [(relation, (0, 1, 2))])
        self.same(not_lesser(book), 0)
        self.same(latest_dates(book), (0, 1, 1))
        self.wrong(NotLesser, {"fact": 0}, earliest_dates, book)
        self.wrong(NotLesser, {"fact": 0}, latest_dates, Book(3, [(after_one_of(3), (0, 1, 2))]))

    def test_stuck(self):
        outcome = latest_dates(Book(2, [(BEFORE, (0, 1)), (BEFORE, (1, 0))]))
        self.assertEqual(outcome, Stuck((), (0, 1), ("struck", ((0, 0), (1, 1)))))
