"""Tests of [5.3] to [5.5]."""

import random

from earliestlots.books import Book, book_with, equal_book, not_over
from earliestlots.errors import BadLot, NoFact, NotFitting, NotOver
from earliestlots.lots import closing_of, combined_lots
from earliestlots.named import before_relation, between_relation, tied_relation
from earliestlots.relations import Relation, empty_relation, full_relation
from earliestlots.stripping import Left, all_fitting, knot_of, left_book, left_of
from tests.helper import (
    DEEDS, NO_SEQUENCES, Checks, datings_as_told, kept_relations, layers, lots_as_told, rest_as_told,
    some_books, some_fact, standing_with, subsets)

BEFORE = before_relation()
SIZES = ((0, 2), (1, 6), (2, 12), (3, 16), (4, 16), (5, 3))
BOOKS = {way: [book for size, many in SIZES for book in some_books(way, size, many, 5)]
         for way in DEEDS + ("over", "any")}
ALL_BOOKS = [book for books in BOOKS.values() for book in books]


def part_as_told(fact, lot):
    """The places of a fact whose dates are in the lot."""
    return tuple(place for place, date in enumerate(fact[1]) if date in lot)


def misfit_as_told(facts, lot):
    """The number of the first fact whose part of the lot neither is empty nor an earliest lot, or None."""
    for number, fact in enumerate(facts):
        part = part_as_told(fact, lot)
        if part and part not in lots_as_told(fact[0]):
            return number
    return None


def taken_as_told(facts, lot):
    """What is left of the facts behind a lot that fits."""
    behind = []
    for relation, dates in facts:
        part = part_as_told((relation, dates), lot)
        rest = rest_as_told(relation, part) if part else relation
        behind.append((rest, tuple(date for date in dates if date not in lot)))
    return behind


class LeftTests(Checks):

    def walk(self, left, facts, deep):
        """All that is behind this Left, as far as so many lots; the rows of lots that take all dates."""
        self.assertIs(type(left), Left)
        self.same([left.left_fact(number) for number in range(len(facts))], facts)
        fitting = []
        for lot in subsets(left.dates)[1:]:
            wrong = misfit_as_told(facts, lot)
            self.same(left.misfit(lot), wrong)
            self.assertIs(left.fits_lot(lot[::-1]), wrong is None)
            if wrong is None:
                fitting.append(lot)
            else:
                self.wrong(NotFitting, {"fact": wrong}, left.take_lot, list(lot))
        self.same(all_fitting(left), tuple(sorted(fitting, key=lambda lot: (len(lot), lot))))
        if not left.dates:
            return [left.lots]
        found = []
        for lot in fitting if deep else []:
            behind = left.take_lot(list(lot[::-1]))
            self.same(behind.lots, left.lots + (lot,))
            self.same(behind.dates, tuple(date for date in left.dates if date not in lot))
            self.assertIs(behind.book, left.book)
            found.extend(self.walk(behind, taken_as_told(facts, lot), deep - 1))
        return found

    def test_all_rows_of_lots_are_just_the_datings(self):
        for way, books in BOOKS.items():
            for book in books:
                if book.size < 4 or (book.size == 4 and len(book) > 1):
                    left = left_of(book)
                    self.assertIs(left.book, book)
                    self.same(left.lots, ())
                    self.same(left.dates, tuple(range(book.size)))
                    rows = self.walk(left, list(equal_book(book).facts), 9)
                    self.assertEqual(sorted(map(standing_with, rows)), datings_as_told(book))
                    self.assertEqual(len(set(rows)), len(rows))

    def test_a_left_does_not_change(self):
        book = Book(3, [(BEFORE, (0, 1)), (full_relation(3), (2, 1, 0))])
        left = left_of(book)
        before = left.left_fact(1)
        behind = left.take_lot([0, 2])
        self.assertIsNot(behind, left)
        self.same((left.lots, left.dates), ((), (0, 1, 2)))
        self.same(left.left_fact(1), before)
        self.same((behind.lots, behind.dates), (((0, 2),), (1,)))
        self.same(behind.left_fact(0), (full_relation(1), (1,)))
        self.same(behind.left_fact(1), (full_relation(1), (1,)))
        self.same(behind.take_lot((1,)).left_fact(1), (Relation(0, [()]), ()))

    def test_no_equality_of_its_own(self):
        book = Book(1, ())
        left = left_of(book)
        self.assertTrue(left == left)
        self.assertFalse(left == left_of(book))
        self.assertNotIn("__eq__", vars(Left))

    def test_facts_are_made_equal_and_keep_the_order_of_their_dates(self):
        book = Book(4, [(Relation(4, [(0, 0, 1, 2), (1, 1, 0, 2), (0, 1, 2, 3)]), (3, 3, 0, 1))])
        left = left_of(book)
        self.same(left.left_fact(0), (Relation(3, [(0, 1, 2), (1, 0, 2)]), (3, 0, 1)))
        self.same(left.take_lot((2, 3)).left_fact(0), (Relation(2, [(0, 1)]), (0, 1)))
        self.same(left.take_lot((0,)).left_fact(0), (Relation(2, [(0, 1)]), (3, 1)))
        self.assertEqual(left.book, book)

    def test_a_fact_without_members_has_no_lot(self):
        book = Book(3, [(BEFORE, (0, 0)), (BEFORE, (1, 2))])
        left = left_of(book)
        self.same(left.misfit((0,)), 0)
        self.same(left.misfit((1,)), None)
        self.same(all_fitting(left), ((1,),))
        behind = left.take_lot((1,)).take_lot((2,))
        self.same(all_fitting(behind), ())
        self.same(behind.left_fact(0), (empty_relation(1), (0,)))

    def test_a_date_in_no_fact_fits_in_any_lot(self):
        left = left_of(Book(3, [(BEFORE, (0, 1))]))
        self.same(all_fitting(left), ((0,), (2,), (0, 2)))
        self.same(all_fitting(left_of(Book(0, ()))), ())
        self.assertEqual(len(all_fitting(left_of(Book(7, ())))), 127)

    def test_wrong_lots(self):
        left = left_of(Book(4, [(BEFORE, (0, 1))])).take_lot((2,))
        for call in (left.misfit, left.fits_lot, left.take_lot):
            for thing in NO_SEQUENCES + ((), []):
                self.wrong(BadLot, {"index": -1}, call, thing)
            for thing in NO_SEQUENCES + (2, 4, -1, True, 0.0, 0):
                if type(thing) is not int or thing not in (1, 3):
                    self.wrong(BadLot, {"index": 1}, call, [0, thing])
            self.wrong(BadLot, {"index": 0}, call, (2, 1, 1))
            self.wrong(BadLot, {"index": 2}, call, (3, 1, 1))
        self.wrong(BadLot, {"index": 0}, left.take_lot, (4, 1))
        self.wrong(NotFitting, {"fact": 0}, left.take_lot, (1,))

    def test_the_first_fact_that_does_not_fit(self):
        left = left_of(Book(3, [(BEFORE, (0, 1)), (BEFORE, (1, 2)), (BEFORE, (0, 2))]))
        for lot, fact in (((0,), None), ((1,), 0), ((2,), 1), ((0, 1), 0), ((0, 2), 1), ((1, 2), 0)):
            self.same(left.misfit(lot), fact)
            if fact is not None:
                self.wrong(NotFitting, {"fact": fact}, left.take_lot, lot)

    def test_left_fact_of_no_fact(self):
        left = left_of(Book(2, [(BEFORE, (0, 1))]))
        for thing in (1, -1, True, False, None, "0", 0.0, (0,)):
            self.wrong(NoFact, {"number": thing}, left.left_fact, thing)
        self.wrong(NoFact, {"number": 0}, left_of(Book(2, ())).left_fact, 0)

    def test_nothing_is_changed(self):
        book = Book(3, [(BEFORE, (0, 1)), (full_relation(3), (2, 1, 0))])
        self.unchanged(knot_of, book)
        lot = [2, 0]
        left = left_of(book)
        left.misfit(lot)
        left.fits_lot(lot)
        left.take_lot(lot)
        self.assertEqual(lot, [2, 0])
        self.assertEqual(book, Book(3, [(BEFORE, (0, 1)), (full_relation(3), (2, 1, 0))]))


class LeftBookTests(Checks):

    def test_its_datings_go_on_behind_the_lots(self):
        picker = random.Random(54)
        for book in ALL_BOOKS:
            left = left_of(book)
            while True:
                rest = left_book(left)
                self.assertEqual(rest.size, len(left.dates))
                behind = [standing_with(left.lots + tuple(
                    tuple(left.dates[date] for date in layer) for layer in layers(dating)))
                    for dating in datings_as_told(rest)]
                begun = [dating for dating in datings_as_told(book) if layers(dating)[:len(left.lots)] == left.lots]
                self.assertEqual(sorted(behind), begun)
                fitting = all_fitting(left)
                if not fitting:
                    break
                left = left.take_lot(picker.choice(fitting))

    def test_facts_and_their_dates(self):
        book = Book(4, [(BEFORE, (3, 1)), (tied_relation(), (0, 0)), (BEFORE, (2, 2)), (full_relation(3), (3, 0, 1))])
        left = left_of(book).take_lot((0, 3))
        self.assertEqual(left_book(left), Book(2, [
            (full_relation(1), (0,)), (empty_relation(1), (1,)), (full_relation(1), (0,))]))
        self.assertEqual(left_book(left_of(book)), equal_book(book))

    def test_behind_all_dates(self):
        left = left_of(Book(2, [(BEFORE, (0, 1))])).take_lot((0,)).take_lot((1,))
        self.same(left.dates, ())
        self.same(all_fitting(left), ())
        self.assertEqual(left_book(left), Book(0, ()))
        self.assertEqual(left_book(left_of(Book(0, ()))), Book(0, ()))


class KnotTests(Checks):

    def knots(self, left):
        """The dates left behind each run of fitting lots."""
        fitting = all_fitting(left)
        if not fitting:
            return {left.dates}
        return {knot for lot in fitting for knot in self.knots(left.take_lot(lot))}

    def test_whichever_lots_are_taken(self):
        for book in ALL_BOOKS:
            if not_over(book) is None and (book.size < 4 or len(book) > 2):
                knot = knot_of(book)
                self.assertEqual(self.knots(left_of(book)), {knot})
                self.same(knot, tuple(sorted(knot)))
                self.assertEqual(knot == (), datings_as_told(book) != [])

    def test_a_fitting_lot_ahead_of_the_other_dates_of_a_dating(self):
        for way in DEEDS + ("over",):
            for book in BOOKS[way]:
                datings = set(datings_as_told(book)) if book.size < 5 else set()
                for lot in all_fitting(left_of(book)):
                    for dating in datings:
                        others = [tuple(date for date in layer if date not in lot) for layer in layers(dating)]
                        row = (lot,) + tuple(layer for layer in others if layer)
                        self.assertIn(standing_with(row), datings)

    def test_a_fact_more_never_makes_it_smaller(self):
        picker = random.Random(55)
        grown = 0
        for way in DEEDS + ("over",):
            for book in BOOKS[way]:
                if book.size > 0:
                    more = book_with(book, some_fact(picker, way, book.size))
                    if not_over(more) is None:
                        self.assertLessEqual(set(knot_of(book)), set(knot_of(more)))
                        grown += knot_of(book) != knot_of(more)
        self.assertGreater(grown, 10)

    def test_the_lots_that_fit_are_closed(self):
        for deed in DEEDS:
            for book in BOOKS[deed]:
                left = left_of(book)
                while True:
                    fitting = all_fitting(left)
                    for one in fitting:
                        for other in fitting:
                            combined = combined_lots(closing_of(deed), one, other)
                            self.assertIn(combined, fitting + ((),))
                    if not fitting:
                        break
                    left = left.take_lot(fitting[0])

    def test_examples(self):
        self.same(knot_of(Book(2, [(BEFORE, (0, 1)), (BEFORE, (1, 0))])), (0, 1))
        self.same(knot_of(Book(2, [(BEFORE, (0, 1))])), ())
        self.same(knot_of(Book(4, [(BEFORE, (0, 1)), (BEFORE, (3, 1)), (BEFORE, (1, 3))])), (1, 3))
        self.same(knot_of(Book(0, ())), ())
        self.same(knot_of(Book(7, ())), ())
        self.same(knot_of(Book(3, [(BEFORE, (1, 1))])), (1,))

    def test_what_can_not_be_taken_over(self):
        between = (between_relation(), (0, 1, 2))
        self.wrong(NotOver, {"fact": 0}, knot_of, Book(3, [between]))
        self.wrong(NotOver, {"fact": 1}, knot_of, Book(3, [(BEFORE, (0, 0)), between, between]))
        self.same(knot_of(Book(3, [(between_relation(), (0, 1, 0))])), (0, 1))
        for book in BOOKS["any"]:
            if not_over(book) is not None:
                self.wrong(NotOver, {"fact": not_over(book)}, knot_of, book)

    def test_the_books_that_are_tried_are_of_many_kinds(self):
        for way in DEEDS + ("over",):
            self.assertGreater(sum(knot_of(book) == () for book in BOOKS[way]), 10)
            self.assertGreater(sum(knot_of(book) != () for book in BOOKS[way]), 10)
            self.assertGreater(len(kept_relations(way)), 20)
