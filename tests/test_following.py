"""Tests of [9.1] to [9.3], and of what [9.6] says of them."""

import random

from earliestlots.books import Book, book_with, ways_of
from earliestlots.closings import kept_by_lots
from earliestlots.errors import BadBook, BadDates, TooMany
from earliestlots.following import fact_follows, may_be, surely_shown
from earliestlots.named import after_one_of, before_relation, tied_relation, unlike_relation
from earliestlots.papers import Stripped, strip_book
from earliestlots.relations import Relation, empty_relation, full_relation
from earliestlots.rests import over_by_lots
from tests.helper import (
    DEEDS, NO_FACTS, NO_NUMBERS, NO_SEQUENCES, Checks, datings_as_told, fits_as_told, part_of, some_books, some_fact)

BEFORE = before_relation()
SIZES = ((0, 1), (1, 4), (2, 12), (3, 20), (4, 10), (5, 3))
BOOKS = {way: [book for size, many in SIZES for book in some_books(way, size, many, 3)]
         for way in ("lesser", "odd", "common", "over", "any")}
LOOP = Book(2, [(BEFORE, (0, 1)), (BEFORE, (1, 0))])
LARGE = Book(7, [(BEFORE, (0, 1))] * 12)
FULL = Book(6, [(BEFORE, (0, 1))] * 12)
CHAIN = Book(3, [(BEFORE, (0, 1)), (BEFORE, (1, 2))])


def some_cases():
    """Books with some facts for each."""
    picker = random.Random(91)
    return [(book, some_fact(picker, "any", book.size)) for way in BOOKS for book in BOOKS[way] if book.size > 0
            for _ in range(2)]


class FollowingTests(Checks):

    def test_against_all_datings(self):
        counts = {True: 0, False: 0}
        for book, fact in some_cases():
            datings = datings_as_told(book)
            others = [dating for dating in datings if not fits_as_told(dating, fact)]
            got = fact_follows(book, fact)
            counts[got is None] += 1
            if others:
                self.assertIn(got, others)
                self.same(got, tuple(list(got)))
            else:
                self.same(got, None)
            fitting = [dating for dating in datings if fits_as_told(dating, fact)]
            got = may_be(book, [fact[0], list(fact[1])])
            if fitting:
                self.assertIn(got, fitting)
                self.same(got, tuple(list(got)))
            else:
                self.same(got, None)
        self.assertGreater(min(counts.values()), 50)

    def test_follows_exactly_if_no_other_standing_may_be(self):
        for book, (relation, dates) in some_cases()[::4]:
            others = [row for row in full_relation(relation.places) if row not in relation.members]
            ways = ways_of(book)
            found = []
            for row in others:
                more = book_with(book, (Relation(relation.places, [row]), dates))
                self.assertTrue(set(ways) <= set(ways_of(more)))
                dated = bool(datings_as_told(more))
                if ways:
                    self.assertEqual(isinstance(strip_book(more, way=ways[0]), Stripped), dated)
                found.append(dated)
            self.assertEqual(fact_follows(book, (relation, dates)) is None, not any(found))

    def test_example(self):
        self.same(fact_follows(CHAIN, (BEFORE, (0, 2))), None)
        self.same(fact_follows(CHAIN, (BEFORE, (2, 0))), (0, 1, 2))
        self.same(may_be(CHAIN, (BEFORE, (0, 2))), (0, 1, 2))
        self.same(may_be(CHAIN, (tied_relation(), (0, 2))), None)
        self.same(surely_shown(CHAIN, (2, 0)).members, ((1, 0),))

    def test_books_without_a_dating_or_facts(self):
        for fact in ((BEFORE, (0, 1)), (empty_relation(2), (0, 1)), (after_one_of(4), (0, 0, 1, 1))):
            self.same(fact_follows(LOOP, fact), None)
            self.same(may_be(LOOP, fact), None)
            self.assertIn(fact_follows(Book(2, ()), fact), [(0, 0), (0, 1), (1, 0)])
        self.assertEqual(surely_shown(LOOP, (1, 0)), Relation(2, ()))
        self.assertEqual(surely_shown(Book(6, ()), [5, 0, 3]), full_relation(3))
        self.same(fact_follows(Book(1, ()), (tied_relation(), (0, 0))), None)
        self.same(may_be(Book(1, ()), (BEFORE, (0, 0))), None)

    def test_bad_facts(self):
        for call in (fact_follows, may_be):
            for book in (LOOP, Book(2, ())):
                for fact, what in NO_FACTS:
                    self.wrong(BadBook, {"index": 0, "what": what}, call, book, fact)
            self.wrong(BadBook, {"index": 0, "what": "date"}, call, Book(0, ()), (Relation(1, [(0,)]), (0,)))

    def test_too_many(self):
        for call in (fact_follows, may_be, surely_shown):
            for wrong in (None, (), (BEFORE, (0, 1))):
                self.wrong(TooMany, {"most": 6}, call, LARGE, wrong)
                self.wrong(TooMany, {"most": 6}, call, Book(7, ()), wrong)
                self.wrong(TooMany, {"most": 11}, call, FULL, wrong)
        most = Book(6, FULL.facts[:11])
        self.same(fact_follows(most, (BEFORE, (0, 1))), None)
        self.same(may_be(most, (BEFORE, (1, 0))), None)
        self.same(surely_shown(most, (1, 0)).members, ((1, 0),))

    def test_nothing_is_changed(self):
        self.unchanged(fact_follows, CHAIN, [unlike_relation(), [0, 2]])
        self.unchanged(fact_follows, CHAIN, [tied_relation(), [0, 2]])
        self.unchanged(may_be, CHAIN, [unlike_relation(), [0, 2]])
        self.unchanged(lambda book, dates: surely_shown(book, dates).members, CHAIN, [2, 0])


class SurelyShownTests(Checks):

    def some_dates(self, book, picker):
        """Some unlike dates of the book, in any order."""
        return picker.sample(range(book.size), picker.randint(1, min(4, book.size)))

    def test_against_all_datings(self):
        picker = random.Random(93)
        for way in BOOKS:
            for book in BOOKS[way]:
                for _ in range(2 if book.size > 0 else 0):
                    dates = self.some_dates(book, picker)
                    got = surely_shown(book, dates)
                    wanted = {part_of(dating, dates) for dating in datings_as_told(book)}
                    self.assertIs(type(got), Relation)
                    self.same(got.places, len(dates))
                    self.same(got.members, tuple(sorted(wanted)))
                    self.check_kept(way, got)

    def check_kept(self, way, relation):
        """What is shown is kept as the book is."""
        if way in DEEDS:
            self.assertTrue(kept_by_lots(relation, way))
        if way != "any":
            self.assertTrue(over_by_lots(relation))

    def test_a_fact_follows_exactly_if_it_has_all_that_is_shown(self):
        found = 0
        for book, (relation, dates) in some_cases():
            if len(set(dates)) == len(dates):
                shown = surely_shown(book, dates)
                follows = all(row in relation.members for row in shown)
                self.assertEqual(fact_follows(book, (relation, dates)) is None, follows)
                found += 1
        self.assertGreater(found, 100)

    def test_bad_dates(self):
        for wrong in NO_SEQUENCES + ((), [], (0, 1, 2, 3, 4), (None,) * 5):
            for book in (Book(6, ()), LOOP, Book(0, ())):
                self.wrong(BadDates, {"index": -1}, surely_shown, book, wrong)
        for wrong in NO_NUMBERS + (2, 6, 7):
            self.wrong(BadDates, {"index": 0}, surely_shown, LOOP, (wrong, wrong))
            self.wrong(BadDates, {"index": 1}, surely_shown, LOOP, [1, wrong, 1])
        self.wrong(BadDates, {"index": 1}, surely_shown, LOOP, (0, 0))
        self.wrong(BadDates, {"index": 2}, surely_shown, Book(3, ()), (0, 1, 0, 3))
        self.wrong(BadDates, {"index": 3}, surely_shown, Book(6, ()), (5, 1, 0, 5))
        self.wrong(BadDates, {"index": 0}, surely_shown, Book(0, ()), (0,))
