"""Tests of [9.4], and of what [9.6] says of them."""

import random

from earliestlots.books import Book
from earliestlots.errors import TooMany
from earliestlots.mends import least_clashes, struck_mends
from earliestlots.named import before_relation, tied_relation, unlike_relation
from earliestlots.relations import Relation
from tests.helper import Checks, datings_as_told, some_books, subsets

BEFORE = before_relation()
EXAMPLE = Book(3, [(BEFORE, (0, 1)), (BEFORE, (1, 2)), (BEFORE, (2, 0)), (unlike_relation(), (0, 2))])
SIZES = ((0, 1), (1, 5), (2, 25), (3, 20), (4, 6))
BOOKS = [book for way in ("any", "lesser") for size, many in SIZES for book in some_books(way, size, many, 6)]


def tight_books():
    """Books of two and three dates whose facts often clash."""
    picker = random.Random(94)
    pairs = [BEFORE, BEFORE, tied_relation(), unlike_relation()]
    books = []
    for size in (2, 3, 3, 3):
        for _ in range(12):
            facts = [(picker.choice(pairs), picker.sample(range(size), 2)) for _ in range(picker.randint(3, 7))]
            books.append(Book(size, facts))
    return books


def is_dated(book, numbers):
    """Whether the book with just the facts of these numbers has a dating."""
    return bool(datings_as_told(Book(book.size, [book.facts[number] for number in numbers])))


def smallest(lots):
    """Those of the lots of which no smaller part is one of them, by size, then ascending."""
    held = [lot for lot in lots if not any(set(other) < set(lot) for other in lots)]
    return tuple(sorted(held, key=lambda lot: (len(lot), lot)))


def lots_that_meet(many, others):
    """The smallest lots of numbers below many that have a number in common with each of the others."""
    return smallest([lot for lot in subsets(range(many)) if all(set(lot) & set(other) for other in others)])


class MendsTests(Checks):

    def check_book(self, book):
        """Mends and clashes are as told, by trying all lots of facts."""
        facts = range(len(book))
        mends = [lot for lot in subsets(facts) if is_dated(book, [fact for fact in facts if fact not in lot])]
        clashes = [lot for lot in subsets(facts) if not is_dated(book, lot)]
        self.same(struck_mends(book), smallest(mends))
        self.same(least_clashes(book), smallest(clashes))
        return len(struck_mends(book))

    def test_against_all_lots_of_facts(self):
        unlike = {}
        for book in BOOKS + tight_books():
            many = self.check_book(book)
            unlike[many] = unlike.get(many, 0) + 1
        self.assertGreater(len(unlike), 3)

    def test_mends_and_clashes_meet(self):
        stuck = 0
        for book in BOOKS + tight_books():
            mends, clashes = struck_mends(book), least_clashes(book)
            self.assertEqual(mends, lots_that_meet(len(book), clashes))
            if datings_as_told(book):
                self.same((mends, clashes), (((),), ()))
            else:
                stuck += 1
                self.assertEqual(clashes, lots_that_meet(len(book), mends))
        self.assertGreater(stuck, 40)

    def test_example(self):
        self.same(least_clashes(EXAMPLE), ((0, 1, 2),))
        self.same(struck_mends(EXAMPLE), ((0,), (1,), (2,)))

    def test_edges(self):
        for size in (0, 1, 6):
            self.same(struck_mends(Book(size, ())), ((),))
            self.same(least_clashes(Book(size, ())), ())
        none = Book(2, [(BEFORE, (0, 0)), (BEFORE, (0, 1)), (Relation(1, ()), (1,)), (BEFORE, (1, 0))])
        self.same(struck_mends(none), ((0, 1, 2), (0, 2, 3)))
        self.same(least_clashes(none), ((0,), (2,), (1, 3)))

    def test_bounds(self):
        ring = [(BEFORE, (date, (date + 1) % 6)) for date in range(6)]
        book = Book(6, ring + [(tied_relation(), (0, 3)), (unlike_relation(), (5, 2))])
        self.same(least_clashes(book), ((0, 1, 2, 6), (3, 4, 5, 6), (0, 1, 2, 3, 4, 5)))
        self.assertEqual(struck_mends(book), lots_that_meet(8, least_clashes(book)))

    def test_too_many(self):
        fact = (BEFORE, (0, 1))
        for call in (struck_mends, least_clashes):
            self.wrong(TooMany, {"most": 6}, call, Book(7, ()))
            self.wrong(TooMany, {"most": 6}, call, Book(7, [fact] * 9))
            self.wrong(TooMany, {"most": 8}, call, Book(6, [fact] * 9))
            self.wrong(TooMany, {"most": 8}, call, Book(2, [fact] * 12))
        self.same(struck_mends(Book(2, [fact] * 8)), ((),))

    def test_nothing_is_changed(self):
        self.unchanged(struck_mends, EXAMPLE)
        self.unchanged(least_clashes, EXAMPLE)
