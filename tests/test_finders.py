"""Tests of [5.6]."""

from earliestlots.books import Book
from earliestlots.errors import NoDate
from earliestlots.finders import grown_lot, strike_rows, sums_basis, unstruck_dates
from earliestlots.named import after_one_of, before_relation, tied_relation, two_first_relation, unlike_relation
from earliestlots.relations import Relation, empty_relation, full_relation
from earliestlots.stripping import all_fitting, left_of
from tests.helper import DEEDS, NO_NUMBERS, Checks, facts_as_told, some_lefts, subsets

BEFORE = before_relation()
LEFTS = {way: some_lefts(way) for way in DEEDS + ("any",)}
ALL_LEFTS = [left for lefts in LEFTS.values() for left in lefts]


def strikes_as_told(left):
    """The rows in which dates are struck, judging all anew behind each."""
    facts = facts_as_told(left)
    unstruck = set(left.dates)
    rows = []
    while True:
        able = [(date, fact) for date in unstruck for fact, (dates, lots) in enumerate(facts)
                if date in dates and not any(date in lot for lot in lots if lot <= unstruck)]
        if not able:
            return tuple(rows)
        rows.append(min(able))
        unstruck.remove(min(able)[0])


def solutions_as_told(left):
    """The lots of dates left that meet all equations of all facts evenly."""
    equations = [row for dates, lots in facts_as_told(left) for row in subsets(dates)[1:]
                 if all(len(lot & set(row)) % 2 == 0 for lot in lots)]
    return [lot for lot in subsets(left.dates)[1:] if all(len(set(lot) & set(row)) % 2 == 0 for row in equations)]


def odd_sums(lots):
    """The odd sums of one or more of the lots."""
    found = set()
    for row in subsets(lots)[1:]:
        total = set()
        for lot in row:
            total ^= set(lot)
        found.add(tuple(sorted(total)))
    return found


def grown_as_told(left, date):
    """The grown lot, or None."""
    grown = {date}
    while True:
        before = set(grown)
        for dates, lots in facts_as_told(left):
            if grown & set(dates):
                holding = [lot for lot in lots if grown & set(dates) <= lot]
                if not holding:
                    return None
                grown |= set.intersection(*holding)
        if grown == before:
            return tuple(sorted(grown))


class StrikeTests(Checks):

    def test_rows_and_dates_that_stay(self):
        for left in ALL_LEFTS:
            rows = strike_rows(left)
            self.same(rows, strikes_as_told(left))
            struck = [date for date, _ in rows]
            self.same(unstruck_dates(left), tuple(date for date in left.dates if date not in struck))

    def test_every_lot_that_fits_lies_within_the_dates_that_stay(self):
        for left in ALL_LEFTS:
            stay = set(unstruck_dates(left))
            for lot in all_fitting(left):
                self.assertLessEqual(set(lot), stay)

    def test_kept_by_lesser_they_are_the_greatest_lot_that_fits(self):
        for left in LEFTS["lesser"]:
            fitting = all_fitting(left)
            self.same(unstruck_dates(left), fitting[-1] if fitting else ())

    def test_the_example(self):
        left = left_of(Book(2, [(BEFORE, (0, 1)), (BEFORE, (1, 0))]))
        self.same(strike_rows(left), ((0, 1), (1, 0)))
        self.same(unstruck_dates(left), ())

    def test_the_least_date_and_its_first_fact(self):
        left = left_of(Book(3, [(BEFORE, (0, 2)), (BEFORE, (1, 2)), (BEFORE, (0, 1))]))
        self.same(strike_rows(left), ((1, 2), (2, 0)))
        # Date 2 can be struck at once, date 0 only behind it, and then date 1.
        left = left_of(Book(3, [(tied_relation(), (0, 1)), (tied_relation(), (0, 2)), (BEFORE, (2, 2))]))
        self.same(strike_rows(left), ((2, 2), (0, 1), (1, 0)))

    def test_a_fact_without_lots_strikes_each_of_its_dates(self):
        left = left_of(Book(4, [(empty_relation(3), (3, 1, 3))]))
        self.same(strike_rows(left), ((1, 0), (3, 0)))
        self.same(unstruck_dates(left), (0, 2))

    def test_without_facts_or_dates(self):
        self.same(strike_rows(left_of(Book(0, ()))), ())
        self.same(unstruck_dates(left_of(Book(0, ()))), ())
        self.same(unstruck_dates(left_of(Book(7, ()))), (0, 1, 2, 3, 4, 5, 6))
        behind = left_of(Book(2, [(BEFORE, (0, 1))])).take_lot((0,)).take_lot((1,))
        self.same((strike_rows(behind), unstruck_dates(behind)), ((), ()))


class SumsTests(Checks):

    def test_the_basis(self):
        for left in ALL_LEFTS:
            basis = sums_basis(left)
            self.assertIs(type(basis), tuple)
            self.assertEqual(odd_sums(basis), set(solutions_as_told(left)))
            self.assertEqual(len(odd_sums(basis)), 2 ** len(basis) - 1)
            self.same(list(basis), [tuple(sorted(lot)) for lot in basis])
            leasts = [lot[0] for lot in basis]
            self.assertEqual(leasts, sorted(leasts))
            for lot in basis:
                self.assertEqual(set(lot) & set(leasts), {lot[0]})

    def test_every_lot_that_fits_is_an_odd_sum(self):
        for left in ALL_LEFTS:
            self.assertLessEqual(set(all_fitting(left)), odd_sums(sums_basis(left)))

    def test_kept_by_odd_the_odd_sums_are_the_lots_that_fit(self):
        for left in LEFTS["odd"]:
            self.assertEqual(set(all_fitting(left)), odd_sums(sums_basis(left)))

    def test_examples(self):
        left = left_of(Book(3, [(two_first_relation(), (0, 1, 2))]))
        self.same(sums_basis(left), ((0, 2), (1, 2)))
        self.same(sums_basis(left_of(Book(4, [(BEFORE, (2, 0))]))), ((1,), (2,), (3,)))
        self.same(sums_basis(left_of(Book(2, [(BEFORE, (0, 1)), (BEFORE, (1, 0))]))), ())
        self.same(sums_basis(left_of(Book(0, ()))), ())
        self.same(sums_basis(left_of(Book(3, ()))), ((0,), (1,), (2,)))

    def test_a_fact_without_lots(self):
        left = left_of(Book(4, [(empty_relation(3), (3, 1, 3))]))
        self.same(sums_basis(left), ((0,), (2,)))


class GrownTests(Checks):

    def test_grown_lots(self):
        for left in ALL_LEFTS:
            for date in left.dates:
                self.same(grown_lot(left, date), grown_as_told(left, date))

    def test_every_lot_that_fits_and_has_the_date_holds_the_grown_lot(self):
        for left in ALL_LEFTS:
            for lot in all_fitting(left):
                for date in lot:
                    self.assertLessEqual(set(grown_lot(left, date)), set(lot))

    def test_kept_by_common_it_is_the_least_lot_that_fits(self):
        for left in LEFTS["common"]:
            fitting = all_fitting(left)
            for date in left.dates:
                with_it = [lot for lot in fitting if date in lot]
                self.same(grown_lot(left, date), with_it[0] if with_it else None)

    def test_examples(self):
        left = left_of(Book(4, [(tied_relation(), (0, 2)), (tied_relation(), (2, 1)), (unlike_relation(), (3, 0))]))
        for date in (0, 1, 2):
            self.same(grown_lot(left, date), (0, 1, 2))
        self.same(grown_lot(left, 3), (3,))
        left = left_of(Book(3, [(tied_relation(), (0, 1)), (after_one_of(2), (1, 2))]))
        self.same([grown_lot(left, date) for date in range(3)], [None, None, (2,)])
        self.same(grown_lot(left_of(Book(1, ())), 0), (0,))

    def test_facts_without_a_date_in_it_add_nothing(self):
        left = left_of(Book(3, [(empty_relation(1), (2,)), (full_relation(2), (0, 1))]))
        self.same(grown_lot(left, 0), (0,))
        self.same(grown_lot(left, 2), None)

    def test_wrong_dates(self):
        left = left_of(Book(3, [(BEFORE, (0, 1))])).take_lot((0,))
        for thing in NO_NUMBERS + (0, 3, 7):
            self.wrong(NoDate, {"date": thing}, grown_lot, left, thing)
        self.wrong(NoDate, {"date": 0}, grown_lot, left_of(Book(0, ())), 0)


class UnchangedTests(Checks):

    def test_a_left_stays_as_it_was(self):
        book = Book(3, [(Relation(2, [(0, 1), (0, 0)]), (0, 2)), (two_first_relation(), (2, 1, 0))])
        left = left_of(book)
        before = (left.lots, left.dates, [left.left_fact(number) for number in range(2)])
        for call in (strike_rows, unstruck_dates, sums_basis):
            self.same(call(left), call(left))
        self.same(grown_lot(left, 2), grown_lot(left, 2))
        self.same((left.lots, left.dates, [left.left_fact(number) for number in range(2)]), before)
        self.assertIs(left.book, book)
