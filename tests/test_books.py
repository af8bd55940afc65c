"""Tests of [5.1] and [5.2]."""

from earliestlots.books import (
    Book, book_with, book_without, equal_book, fit_fault, fits_book, not_over, turned_book, way_of, ways_of)
from earliestlots.errors import BadBook, BadStanding, NoFact
from earliestlots.joining import made_equal
from earliestlots.keeps import broken_over, is_kept
from earliestlots.named import (
    after_one_of, before_relation, between_relation, not_after_relation, tied_relation, two_first_relation,
    unlike_relation, with_or_after_one_of)
from earliestlots.relations import Relation, empty_relation, full_relation, one_standing, turned_relation
from tests.helper import (
    DEEDS, NO_NUMBERS, NO_SEQUENCES, Checks, datings_as_told, fits_as_told, relations_but_for_renaming,
    small_relations, some_books, standings_by_trying)

BEFORE = before_relation()
BOOKS = [book for way in DEEDS + ("over", "any") for size in range(5) for book in some_books(way, size, 12)]


class BookTests(Checks):

    def test_attributes(self):
        facts = [[BEFORE, [0, 1]], (two_first_relation(), (2, 2, 0))]
        book = Book(3, facts)
        self.same(book.size, 3)
        self.same(book.facts, ((BEFORE, (0, 1)), (two_first_relation(), (2, 2, 0))))
        self.assertEqual(len(book), 2)
        facts[0][1].append(2)
        facts.append("x")
        self.same(book.facts, ((BEFORE, (0, 1)), (two_first_relation(), (2, 2, 0))))
        self.assertEqual(Book(size=1, facts=()).size, 1)

    def test_facts_are_kept_as_given_and_not_made_equal(self):
        book = Book(7, [(full_relation(4), (6, 6, 6, 0)), (full_relation(1), [6])])
        self.same(book.facts, ((full_relation(4), (6, 6, 6, 0)), (full_relation(1), (6,))))

    def test_numbers_of_dates_and_facts(self):
        for size in range(8):
            self.assertEqual(Book(size, []).size, size)
        self.same(Book(0, ()).facts, ())
        self.assertEqual(len(Book(0, [])), 0)
        for many in range(13):
            self.assertEqual(len(Book(2, [(BEFORE, (0, 1))] * many)), many)

    def test_size_then_many(self):
        for thing in NO_NUMBERS + (8,):
            self.wrong(BadBook, {"index": -1, "what": "size"}, Book, thing, None)
        for thing in NO_SEQUENCES:
            self.wrong(BadBook, {"index": -1, "what": "many"}, Book, 2, thing)
        self.wrong(BadBook, {"index": -1, "what": "many"}, Book, 2, [(BEFORE, (0, 1))] * 13)
        self.wrong(BadBook, {"index": -1, "what": "many"}, Book, 2, [None] * 13)

    def test_wrong_facts(self):
        right = (BEFORE, (0, 1))
        for thing in NO_SEQUENCES + ((), (BEFORE,), (BEFORE, (0, 1), 2)):
            self.wrong(BadBook, {"index": 0, "what": "fact"}, Book, 2, [thing])
            self.wrong(BadBook, {"index": 1, "what": "fact"}, Book, 2, [right, thing, None])
        for thing in NO_SEQUENCES:
            self.wrong(BadBook, {"index": 0, "what": "fact"}, Book, 2, [(BEFORE, thing)])
            self.wrong(BadBook, {"index": 0, "what": "fact"}, Book, 2, [(None, thing)])
        for thing in NO_SEQUENCES + (((0, 1),), BEFORE.members, Relation(0, [()]), full_relation(1), full_relation(3)):
            self.wrong(BadBook, {"index": 2, "what": "places"}, Book, 2, [right, right, (thing, (0, 1)), None])
        for dates in ((), (0,), (0, 1, 0), (9, 9, 9)):
            self.wrong(BadBook, {"index": 0, "what": "places"}, Book, 2, [(BEFORE, dates)])
        self.wrong(BadBook, {"index": 0, "what": "places"}, Book, 2, [(Relation(0, [()]), ())])
        for thing in NO_NUMBERS + (2, 7):
            self.wrong(BadBook, {"index": 0, "what": "date"}, Book, 2, [(BEFORE, (0, thing)), None])
            self.wrong(BadBook, {"index": 1, "what": "date"}, Book, 2, [right, (BEFORE, [thing, 0])])
        self.wrong(BadBook, {"index": 0, "what": "date"}, Book, 0, [(full_relation(1), (0,))])
        self.wrong(BadBook, {"index": 0, "what": "date"}, Book, 2, [(BEFORE, (0, 2)), (BEFORE, (0,))])

    def test_equal(self):
        self.assertTrue(Book(2, [(BEFORE, (0, 1))]) == Book(2, ([Relation(2, ((0, 1),)), [0, 1]],)))
        for other in (
                Book(3, [(BEFORE, (0, 1))]), Book(2, [(BEFORE, (1, 0))]), Book(2, [(tied_relation(), (0, 1))]),
                Book(2, []), Book(2, [(BEFORE, (0, 1))] * 2), None, (2, ((BEFORE, (0, 1)),)), 2):
            self.assertFalse(Book(2, [(BEFORE, (0, 1))]) == other)
        rows = [(BEFORE, (0, 1)), (tied_relation(), (0, 1))]
        self.assertFalse(Book(2, rows) == Book(2, rows[::-1]))


class MadeOfBooksTests(Checks):

    def test_equal_book(self):
        for book in BOOKS:
            equal = equal_book(book)
            self.same(equal.facts, tuple(made_equal(relation, dates) for relation, dates in book.facts))
            self.assertEqual(equal.size, book.size)
            self.assertEqual(datings_as_told(equal), datings_as_told(book))
            self.assertEqual(equal_book(equal), equal)
        book = Book(3, [(full_relation(3), (2, 0, 2)), (BEFORE, (1, 1)), (tied_relation(), (1, 1))])
        self.assertEqual(equal_book(book), Book(3, [
            (full_relation(2), (2, 0)), (empty_relation(1), (1,)), (full_relation(1), (1,))]))

    def test_turned_book(self):
        for book in BOOKS:
            turned = turned_book(book)
            self.same(turned.facts, tuple((turned_relation(relation), dates) for relation, dates in book.facts))
            self.assertEqual(turned.size, book.size)
            self.assertEqual(turned_book(turned), book)

    def test_book_with(self):
        for book in BOOKS:
            if book.size > 0:
                longer = book_with(book, [BEFORE, [0, book.size - 1]])
                self.same(longer.facts, book.facts + ((BEFORE, (0, book.size - 1)),))
                self.assertEqual(longer.size, book.size)

    def test_book_with_a_wrong_fact(self):
        full = Book(2, [(BEFORE, (0, 1))] * 12)
        for thing in ((BEFORE, (0, 1)), None, (BEFORE, (0, 2))):
            self.wrong(BadBook, {"index": -1, "what": "many"}, book_with, full, thing)
        for many in (0, 1, 11):
            book = Book(2, [(BEFORE, (0, 1))] * many)
            for thing, what in (
                    (None, "fact"), ((BEFORE,), "fact"), ((BEFORE, 0), "fact"), ((None, (0, 1)), "places"),
                    ((BEFORE, (0,)), "places"), ((BEFORE, (0, 2)), "date"), ((BEFORE, (0, True)), "date")):
                self.wrong(BadBook, {"index": many, "what": what}, book_with, book, thing)

    def test_book_without(self):
        for book in BOOKS:
            for number in range(len(book)):
                shorter = book_without(book, number)
                self.same(shorter.facts, book.facts[:number] + book.facts[number + 1:])
                self.assertEqual(shorter.size, book.size)
            for thing in (len(book), -1, None, "0", False, True, 0.0, (0,)):
                self.wrong(NoFact, {"number": thing}, book_without, book, thing)

    def test_nothing_is_changed(self):
        book = Book(3, [(full_relation(3), (2, 0, 2)), (BEFORE, (1, 1))])
        for call in (equal_book, turned_book):
            self.unchanged(call, book)
        self.unchanged(book_with, book, [BEFORE, [0, 1]])
        self.unchanged(book_without, book, 0)
        self.unchanged(fit_fault, book, [0, 0, 1])


class FitTests(Checks):

    def test_all_standings(self):
        for book in BOOKS:
            for dating in standings_by_trying(book.size):
                wrong = [number for number, fact in enumerate(book.facts) if not fits_as_told(dating, fact)]
                self.same(fit_fault(book, dating), wrong[0] if wrong else None)
                self.assertIs(fits_book(book, list(dating)), not wrong)

    def test_equal_dates_have_equal_ranks(self):
        book = Book(2, [(tied_relation(), (1, 1)), (BEFORE, (0, 0))])
        for dating in standings_by_trying(2):
            self.same(fit_fault(book, dating), 1)
        book = Book(2, [(two_first_relation(), (0, 1, 0))])
        self.assertEqual(datings_as_told(book), [(0, 1)])
        self.assertIs(fits_book(book, (0, 1)), True)
        self.assertIs(fits_book(book, (1, 0)), False)

    def test_a_book_of_0_dates_has_one_dating(self):
        self.assertIsNone(fit_fault(Book(0, ()), ()))
        self.assertIs(fits_book(Book(0, ()), []), True)

    def test_wrong_datings(self):
        for book in (Book(2, ()), Book(2, [(BEFORE, (0, 1))])):
            for call in (fit_fault, fits_book):
                for thing in NO_SEQUENCES + ((0,), (-1,), (0, 1, 2), (), (0, 2), (1, 1), (0,) * 8):
                    self.wrong(BadStanding, {"index": -1}, call, book, thing)
                for thing in NO_NUMBERS:
                    self.wrong(BadStanding, {"index": 1}, call, book, (5, thing))
                    self.wrong(BadStanding, {"index": 0}, call, book, [thing, thing])


class WayTests(Checks):

    def test_all_relations_of_few_places(self):
        for relation in small_relations() + relations_but_for_renaming(3)[::4]:
            if relation.places > 0:
                book = Book(relation.places, [(relation, tuple(range(relation.places))[::-1])])
                ways = tuple(deed for deed in DEEDS if is_kept(relation, deed))
                self.same(ways_of(book), ways)
                self.same(way_of(book), ways[0] if ways else None)
                self.same(not_over(book), None if broken_over(relation) is None else 0)

    def test_books_of_several_facts(self):
        for book in BOOKS[::3]:
            facts = [relation for relation, _ in equal_book(book).facts if relation.places < 4]
            if len(facts) == len(book):
                ways = tuple(deed for deed in DEEDS if all(is_kept(relation, deed) for relation in facts))
                self.same(ways_of(book), ways)
                self.same(way_of(book), ways[0] if ways else None)
                wrong = [number for number, relation in enumerate(facts) if broken_over(relation) is not None]
                self.same(not_over(book), wrong[0] if wrong else None)

    def test_without_facts_or_members(self):
        for book in (Book(0, ()), Book(7, ()), Book(3, [(empty_relation(3), (0, 1, 2)), (empty_relation(4), (0,) * 4)])):
            self.same(ways_of(book), DEEDS)
            self.same(way_of(book), "lesser")
            self.same(not_over(book), None)

    def test_named_relations(self):
        for relation, ways in (
                (not_after_relation(), ("lesser", "common")), (unlike_relation(), ("common",)),
                (two_first_relation(), ("odd",)), (between_relation(), ()), (after_one_of(4), DEEDS),
                (with_or_after_one_of(4), ("lesser",)), (full_relation(4), DEEDS), (one_standing((1, 0, 1, 2)), DEEDS)):
            book = Book(4, [(relation, tuple(range(relation.places)))])
            self.same(ways_of(book), ways)
        both = [(two_first_relation(), (0, 1, 2)), (unlike_relation(), (0, 1))]
        self.same(ways_of(Book(3, both)), ())
        self.same(way_of(Book(3, both)), None)
        self.same(not_over(Book(3, both)), None)

    def test_facts_are_made_equal_first(self):
        book = Book(3, [(BEFORE, (0, 1)), (between_relation(), (0, 1, 0))])
        self.same(not_over(book), None)
        self.same(ways_of(book), DEEDS)
        # Taking over breaks it as it stands, and each deed keeps it as soon as two of its dates are one.
        relation = Relation(3, [(0, 1, 2), (2, 1, 0), (0, 0, 1)])
        self.same(not_over(Book(3, [(relation, (0, 1, 2))])), 0)
        self.same(ways_of(Book(3, [(relation, (0, 0, 2))])), DEEDS)

    def test_the_first_fact_that_can_not_be_taken_over(self):
        between = (between_relation(), (0, 1, 2))
        self.same(not_over(Book(3, [(BEFORE, (0, 1)), between, between])), 1)
        self.same(not_over(Book(3, [between])), 0)
