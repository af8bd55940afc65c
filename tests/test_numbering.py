"""Tests of [7.3] to [7.6], and of what [7.1] and [7.11] say of them."""

import random
from itertools import permutations, product

from earliestlots.books import Book
from earliestlots.earliest import earliest_dates, not_lesser
from earliestlots.errors import BadMoment, BadNumbers, NoDate, NotFit, NotLesser
from earliestlots.named import after_all_of, after_one_of, before_relation, tied_relation, unlike_relation
from earliestlots.numbering import (
    Late, check_numbers, dated_within, earliest_fault, earliest_from, lesser_numbers, numbers_fit, put_off)
from tests.helper import NO_NUMBERS, NO_SEQUENCES, Checks, datings_as_told, fits_as_told, ranked, some_books

BEFORE = before_relation()
SIZES = ((0, 1), (1, 4), (2, 20), (3, 50))
LESSER = [book for size, many in SIZES for book in some_books("lesser", size, many, 4)]
ANY = [book for size, many in SIZES for book in some_books("any", size, many, 3)]
LARGE = [book for size, many in ((5, 8), (6, 8), (7, 6)) for book in some_books("lesser", size, many, 5)]

# The book of [7.11], one without a dating, and one that lesser does not keep.
EXAMPLE = Book(3, [(after_all_of(2), (1, 0)), (after_one_of(3), (2, 0, 1))])
LOOP = Book(2, [(BEFORE, (0, 1)), (BEFORE, (1, 0))])
NOT_KEPT = Book(2, [(BEFORE, (0, 1)), (unlike_relation(), (0, 1))])


def fits(book, numbers):
    """Whether the standing of the numbering fits each fact, as told."""
    return all(fits_as_told(ranked(numbers), fact) for fact in book.facts)


def least_as_told(book, floors):
    """The fitting numbering nowhere below the floors that is nowhere above another one, by trying all numberings."""
    top = max(floors, default=0) + book.size
    datings = datings_as_told(book)
    rows = [row for row in product(*[range(floor, top) for floor in floors]) if ranked(row) in datings]
    if not rows:
        return None
    least = tuple(min(column) for column in zip(*rows))
    assert least in rows
    return least


def some_floors(book, picker, many):
    """Some floors for the book."""
    return [tuple(picker.randint(0, 4) for _ in range(book.size)) for _ in range(many)]


def rows_of_floors():
    """Books that lesser keeps with floors for each."""
    picker = random.Random(74)
    return [(book, floors) for book in LESSER for floors in some_floors(book, picker, 4)]


class CheckNumbersTests(Checks):

    def test_numberings(self):
        self.same(check_numbers(Book(3, ()), [0, 99, 7]), (0, 99, 7))
        self.same(check_numbers(NOT_KEPT, (5, 5)), (5, 5))
        self.same(check_numbers(Book(0, ()), []), ())

    def test_no_numberings(self):
        for wrong in NO_SEQUENCES + ((), (1,), (1, 2, 3), [True] * 3, (-1,) * 7):
            for call in (check_numbers, numbers_fit):
                self.wrong(BadNumbers, {"index": -1}, call, NOT_KEPT, wrong)
        self.wrong(BadNumbers, {"index": -1}, check_numbers, Book(0, ()), (0,))
        for wrong in NO_NUMBERS + (100, 105, 10 ** 30):
            for call in (check_numbers, numbers_fit):
                self.wrong(BadNumbers, {"index": 0}, call, NOT_KEPT, [wrong, wrong])
                self.wrong(BadNumbers, {"index": 1}, call, NOT_KEPT, (99, wrong))

    def test_nothing_is_changed(self):
        self.unchanged(check_numbers, EXAMPLE, [3, 0, 9])
        self.unchanged(numbers_fit, EXAMPLE, [3, 0, 9])


class NumbersFitTests(Checks):

    def test_any_book(self):
        for book in ANY + LESSER + [NOT_KEPT, LOOP]:
            for numbers in product((0, 3, 4, 99), repeat=book.size):
                self.same(numbers_fit(book, numbers), fits(book, numbers))

    def test_numbers_may_be_left_out(self):
        self.same(numbers_fit(EXAMPLE, [7, 60, 8]), True)
        self.same(numbers_fit(EXAMPLE, [8, 60, 8]), False)
        self.same(numbers_fit(Book(0, ()), ()), True)


class LesserNumbersTests(Checks):

    def test_what_comes_out_fits(self):
        unlike = 0
        for book in LESSER:
            rows = [row for row in product((0, 2, 3, 7), repeat=book.size) if fits(book, row)]
            for one in rows[::3]:
                for other in rows[::4]:
                    got = lesser_numbers(book, list(one), other)
                    self.same(got, tuple(map(min, zip(one, other))))
                    self.assertTrue(fits(book, got))
                    unlike += got not in (one, other)
        self.assertGreater(unlike, 500)

    def test_errors(self):
        self.wrong(NotLesser, {"fact": 1}, lesser_numbers, NOT_KEPT, None, None)
        book = Book(2, [(BEFORE, (0, 1))])
        self.wrong(BadNumbers, {"index": 1}, lesser_numbers, book, (5, 100), None)
        self.wrong(BadNumbers, {"index": -1}, lesser_numbers, book, (5, 1), None)
        self.wrong(BadNumbers, {"index": 0}, lesser_numbers, book, (5, 1), (True, 1))
        self.wrong(NotFit, {}, lesser_numbers, book, (5, 5), (0, 1))
        self.wrong(NotFit, {}, lesser_numbers, book, (0, 1), (1, 0))
        self.wrong(BadNumbers, {"index": -1}, lesser_numbers, LOOP, (0, 1), ())
        self.wrong(NotFit, {}, lesser_numbers, LOOP, (0, 1), (0, 1))

    def test_nothing_is_changed(self):
        self.unchanged(lesser_numbers, EXAMPLE, [0, 5, 1], [1, 2, 3])


class EarliestFromTests(Checks):

    def test_against_all_numberings(self):
        none = raised = 0
        for book, floors in rows_of_floors():
            wanted = least_as_told(book, floors)
            self.same(earliest_from(book, floors), wanted)
            none += wanted is None
            raised += wanted is not None and wanted != floors
        self.assertGreater(none, 10)
        self.assertGreater(raised, 30)

    def test_a_numbering_fits_exactly_if_it_is_its_own_earliest(self):
        for book in LESSER:
            for numbers in product((0, 1, 5), repeat=book.size):
                self.assertEqual(earliest_from(book, numbers) == numbers, fits(book, numbers))

    def test_higher_floors(self):
        for book, floors in rows_of_floors():
            for date in range(book.size):
                higher = floors[:date] + (floors[date] + 3,) + floors[date + 1:]
                one, other = earliest_from(book, floors), earliest_from(book, higher)
                self.assertEqual(one is None, other is None)
                self.assertTrue(one is None or all(low <= high for low, high in zip(one, other)))

    def test_floors_all_0(self):
        for book in LESSER + LARGE:
            outcome = earliest_dates(book)
            wanted = outcome if isinstance(outcome, tuple) else None
            self.same(earliest_from(book, [0] * book.size), wanted)

    def test_large_books(self):
        picker = random.Random(75)
        found = 0
        for book in LARGE:
            for floors in some_floors(book, picker, 3):
                got = earliest_from(book, floors)
                self.assertEqual(got is None, not isinstance(earliest_dates(book), tuple))
                if got is not None:
                    found += 1
                    self.assertTrue(numbers_fit(book, got))
                    self.assertTrue(all(low <= high for low, high in zip(floors, got)))
                    self.check_nothing_is_lower(book, floors, got)
        self.assertGreater(found, 20)

    def check_nothing_is_lower(self, book, floors, got):
        """No date alone can come earlier, and the meet with any other fitting numbering gives it again."""
        for date, number in enumerate(got):
            if number > floors[date]:
                lower = got[:date] + (number - 1,) + got[date + 1:]
                self.assertFalse(numbers_fit(book, lower))
        later = earliest_from(book, [number + 2 for number in floors])
        self.assertEqual(lesser_numbers(book, got, later), got)

    def test_example(self):
        self.same(earliest_from(EXAMPLE, (0, 0, 0)), (0, 1, 1))
        self.same(earliest_from(EXAMPLE, (0, 5, 0)), (0, 5, 1))
        self.same(earliest_from(EXAMPLE, [4, 0, 0]), (4, 5, 5))

    def test_edges(self):
        chain = Book(7, [(BEFORE, (date, date + 1)) for date in range(6)])
        self.same(earliest_from(chain, (99, 0, 0, 0, 0, 0, 0)), (99, 100, 101, 102, 103, 104, 105))
        self.same(earliest_from(chain, (0, 0, 50, 0, 0, 0, 99)), (0, 1, 50, 51, 52, 53, 99))
        self.same(earliest_from(chain, (0,) * 7), (0, 1, 2, 3, 4, 5, 6))
        self.same(earliest_from(Book(2, [(tied_relation(), (0, 1))]), (0, 99)), (99, 99))
        self.same(earliest_from(Book(2, ()), (99, 0)), (99, 0))
        self.same(earliest_from(Book(0, ()), ()), ())
        self.same(earliest_from(LOOP, (0, 99)), None)
        self.same(earliest_from(LOOP, [0, 0]), None)
        # A part of the dates has no dating, although the others could be taken.
        self.same(earliest_from(Book(3, [(BEFORE, (1, 2)), (BEFORE, (2, 1))]), (0, 9, 0)), None)

    def test_errors(self):
        self.wrong(NotLesser, {"fact": 1}, earliest_from, NOT_KEPT, None)
        for book in (LOOP, Book(2, ())):
            self.wrong(BadNumbers, {"index": -1}, earliest_from, book, (0, 0, 0))
            self.wrong(BadNumbers, {"index": -1}, earliest_from, book, "00")
            self.wrong(BadNumbers, {"index": 1}, earliest_from, book, (0, 100))
            self.wrong(BadNumbers, {"index": 0}, earliest_from, book, (False, 100))

    def test_nothing_is_changed(self):
        self.unchanged(earliest_from, EXAMPLE, [0, 5, 0])


class PutOffTests(Checks):

    def test_from_the_greater_number_on(self):
        for book in LESSER:
            rows = [row for row in product((0, 1, 4), repeat=book.size) if fits(book, row)]
            for numbers in rows[::5]:
                for date in range(book.size):
                    for moment in (0, 2, 5):
                        floors = list(numbers)
                        floors[date] = max(numbers[date], moment)
                        self.same(put_off(book, numbers, date, moment), least_as_told(book, floors))

    def test_any_order(self):
        picker = random.Random(76)
        for book in LARGE + LESSER:
            numbers = earliest_dates(book)
            if isinstance(numbers, tuple) and book.size > 1:
                wishes = [(date, picker.randint(0, 9)) for date in picker.sample(range(book.size), min(3, book.size))]
                floors = list(numbers)
                for date, moment in wishes:
                    floors[date] = max(floors[date], moment)
                for row in permutations(wishes):
                    held = numbers
                    for date, moment in row:
                        held = put_off(book, held, date, moment)
                    self.assertEqual(held, earliest_from(book, floors))

    def test_edges(self):
        chain = Book(2, [(BEFORE, (0, 1))])
        self.same(put_off(chain, [0, 1], 0, 99), (99, 100))
        self.same(put_off(chain, (98, 99), 0, 99), (99, 100))
        self.same(put_off(chain, [5, 9], 0, 0), (5, 9))
        self.same(put_off(chain, [5, 9], 1, 9), (5, 9))
        self.same(put_off(EXAMPLE, (0, 1, 1), 1, 5), (0, 5, 1))

    def test_errors(self):
        self.wrong(NotLesser, {"fact": 1}, put_off, NOT_KEPT, None, None, None)
        for book in (LOOP, Book(2, [(BEFORE, (0, 1))])):
            self.wrong(BadNumbers, {"index": -1}, put_off, book, (0,), None, None)
            self.wrong(BadNumbers, {"index": 1}, put_off, book, (0, 100), 2, None)
            for date in (2, -1, True, None, "0", 1.0):
                self.wrong(NoDate, {"date": date}, put_off, book, (0, 0), date, None)
            for moment in NO_NUMBERS + (100,):
                self.wrong(BadMoment, {}, put_off, book, (0, 0), 0, moment)
            self.wrong(NotFit, {}, put_off, book, (0, 0), 0, 99)
        for numbers in ((0, 1), (1, 0), (0, 0)):
            self.wrong(NotFit, {}, put_off, LOOP, numbers, 0, 0)
        self.wrong(NoDate, {"date": 0}, put_off, Book(0, ()), (), 0, 0)

    def test_nothing_is_changed(self):
        self.unchanged(put_off, EXAMPLE, [0, 1, 1], 1, 5)


class DatedWithinTests(Checks):

    def test_against_all_numberings(self):
        picker = random.Random(77)
        late = 0
        for book, floors in rows_of_floors():
            for ceilings in some_floors(book, picker, 3):
                got = dated_within(book, list(floors), ceilings)
                wanted = least_as_told(book, floors)
                if wanted is None:
                    self.same(got, None)
                    continue
                above = [date for date in range(book.size) if wanted[date] > ceilings[date]]
                if above:
                    late += 1
                    self.assertIs(type(got), Late)
                    self.same((got.date, got.number), (above[0], wanted[above[0]]))
                else:
                    self.same(got, wanted)
                between = [row for row in product(*[range(low, high + 1) for low, high in zip(floors, ceilings)])
                           if fits(book, row)]
                self.assertEqual(isinstance(got, tuple), bool(between))
        self.assertGreater(late, 50)

    def test_edges(self):
        chain = Book(2, [(BEFORE, (0, 1))])
        self.same(dated_within(chain, (0, 0), [0, 1]), (0, 1))
        self.assertEqual(dated_within(chain, (0, 0), (0, 0)), Late(1, 1))
        self.assertEqual(dated_within(chain, (5, 0), (4, 99)), Late(0, 5))
        self.assertEqual(dated_within(chain, (99, 99), (99, 99)), Late(1, 100))
        self.assertEqual(dated_within(Book(2, ()), (3, 3), (2, 2)), Late(0, 3))
        self.same(dated_within(LOOP, (3, 3), (2, 2)), None)
        self.same(dated_within(Book(0, ()), (), ()), ())

    def test_errors(self):
        self.wrong(NotLesser, {"fact": 1}, dated_within, NOT_KEPT, None, None)
        for book in (LOOP, Book(2, ())):
            self.wrong(BadNumbers, {"index": 1}, dated_within, book, (0, 100), None)
            self.wrong(BadNumbers, {"index": -1}, dated_within, book, (0, 99), None)
            self.wrong(BadNumbers, {"index": 0}, dated_within, book, (0, 99), (100, 100))
            self.wrong(BadNumbers, {"index": -1}, dated_within, book, (9, 9), (0,))

    def test_nothing_is_changed(self):
        self.unchanged(dated_within, EXAMPLE, [0, 5, 0], [9, 9, 9])
        self.unchanged(dated_within, EXAMPLE, [0, 5, 0], [9, 9, 0])

    def test_late_keeps_what_it_is_given(self):
        date, number = [1], {}
        late = Late(date, number)
        self.assertIs(late.date, date)
        self.assertIs(late.number, number)
        self.assertEqual(Late(1, 2), Late(1, 2))
        self.assertNotEqual(Late(1, 2), Late(1, 3))
        self.assertNotEqual(Late(1, 2), Late(0, 2))
        self.assertNotEqual(Late(1, 2), (1, 2))


def fault_as_told(book, numbers, floors):
    """The word for this numbering of the book and these floors."""
    if any(number < floor for number, floor in zip(numbers, floors)):
        return "floor"
    if not fits(book, numbers):
        return "fit"
    return None if least_as_told(book, floors) == numbers else "early"


class EarliestFaultTests(Checks):

    def test_against_all_numberings(self):
        words = {}
        for book, floors in rows_of_floors():
            for numbers in list(product((0, 2, 4, 5), repeat=book.size))[::3] + [earliest_from(book, floors)]:
                if numbers is not None:
                    wanted = fault_as_told(book, numbers, floors)
                    self.same(earliest_fault(book, list(numbers), floors=floors), wanted)
                    words[wanted] = words.get(wanted, 0) + 1
        for word in (None, "floor", "fit", "early"):
            self.assertGreater(words[word], 20, words)

    def test_floors_none_are_all_0(self):
        for book in LESSER:
            for numbers in product((0, 1, 2), repeat=book.size):
                wanted = fault_as_told(book, numbers, (0,) * book.size)
                self.same(earliest_fault(book, numbers), wanted)
                self.same(earliest_fault(book, numbers, floors=None), wanted)

    def test_words(self):
        chain = Book(2, [(BEFORE, (0, 1))])
        self.same(earliest_fault(chain, (0, 1)), None)
        self.same(earliest_fault(chain, (5, 6), floors=(5, 0)), None)
        for wrong in NO_SEQUENCES + ((0,), (0, 1, 2), (0, 100), (0, True), (99, 100)):
            self.same(earliest_fault(chain, wrong), "numbers")
            self.same(earliest_fault(chain, wrong, floors=(99, 99)), "numbers")
        self.same(earliest_fault(chain, (0, 0), floors=(0, 1)), "floor")
        self.same(earliest_fault(chain, (1, 1), floors=(0, 1)), "fit")
        self.same(earliest_fault(chain, (0, 2), floors=(0, 1)), "early")
        self.same(earliest_fault(chain, (1, 2)), "early")
        self.same(earliest_fault(LOOP, (0, 1)), "fit")
        self.same(earliest_fault(Book(0, ()), ()), None)

    def test_errors(self):
        self.wrong(NotLesser, {"fact": 1}, earliest_fault, NOT_KEPT, None, floors="")
        for numbers in (None, (0, 1), (0, 0)):
            self.wrong(BadNumbers, {"index": -1}, earliest_fault, LOOP, numbers, floors=())
            self.wrong(BadNumbers, {"index": -1}, earliest_fault, LOOP, numbers, floors=False)
            self.wrong(BadNumbers, {"index": 1}, earliest_fault, LOOP, numbers, floors=[0, 100])

    def test_nothing_is_changed(self):
        self.unchanged(earliest_fault, EXAMPLE, [0, 1, 1])
        self.unchanged(lambda book, numbers, floors: earliest_fault(book, numbers, floors=floors),
                       EXAMPLE, [0, 5, 1], [0, 5, 0])


class NotLesserTests(Checks):

    def test_ahead_of_every_other_error(self):
        found = 0
        for book in ANY:
            fact = not_lesser(book)
            if fact is not None:
                found += 1
                self.wrong(NotLesser, {"fact": fact}, earliest_from, book, None)
                self.wrong(NotLesser, {"fact": fact}, lesser_numbers, book, None, None)
                self.wrong(NotLesser, {"fact": fact}, put_off, book, None, None, None)
                self.wrong(NotLesser, {"fact": fact}, dated_within, book, None, None)
                self.wrong(NotLesser, {"fact": fact}, earliest_fault, book, None)
        self.assertGreater(found, 5)
