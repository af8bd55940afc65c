"""Tests of [5.9]."""

from earliestlots.books import Book, not_over
from earliestlots.errors import TooMany
from earliestlots.keeps import broken_over
from earliestlots.named import before_relation, between_relation, two_first_relation
from earliestlots.relations import Relation, full_relation, one_standing
from earliestlots.search import Misled, misleading_book, misled_by, search_dating
from earliestlots.stripping import all_fitting, left_of
from tests.helper import (
    DEEDS, Checks, datings_as_told, layers, relations_but_for_renaming, small_relations, some_books, some_relations,
    standings_by_trying, subsets, thin_relations)

SIZES = ((0, 1), (1, 6), (2, 20), (3, 40), (4, 30), (5, 4))
BOOKS = {way: [book for size, many in SIZES for book in some_books(way, size, many)] for way in DEEDS + ("over", "any")}
BOOKS["many"] = [book for size in (3, 4) for book in some_books("any", size, 100, 3)]
ALL_BOOKS = [book for books in BOOKS.values() for book in books]


def misleading_lots(left, datings):
    """All rows of fitting lots whose last lot misleads, by trying all."""
    begun = [dating for dating in datings if layers(dating)[:len(left.lots)] == left.lots]
    found = []
    for lot in all_fitting(left) if begun else ():
        behind = left.take_lot(lot)
        if any(layers(dating)[:len(behind.lots)] == behind.lots for dating in begun):
            found.extend(misleading_lots(behind, datings))
        else:
            found.append(behind.lots)
    return found


class ResultTests(Checks):

    def test_misled_keeps_what_it_is_given(self):
        lots, dating = [0], {}
        misled = Misled(lots, dating)
        self.assertIs(misled.lots, lots)
        self.assertIs(misled.dating, dating)
        self.assertEqual(vars(Misled(lots=1, dating=2)), {"lots": 1, "dating": 2})
        self.assertTrue(Misled(1, 2) == Misled(1, 2))
        for other in (Misled(0, 2), Misled(1, 0), (1, 2), None):
            self.assertFalse(Misled(1, 2) == other)


class SearchTests(Checks):

    def test_the_first_dating(self):
        for book in ALL_BOOKS:
            datings = datings_as_told(book)
            self.same(search_dating(book), datings[0] if datings else None)

    def test_six_dates(self):
        book = Book(6, [(before_relation(), (5, 0)), (one_standing((1, 0, 2, 2)), (1, 2, 3, 4))])
        self.same(search_dating(book), (1, 1, 0, 2, 2, 0))
        self.same(search_dating(Book(6, [(before_relation(), (5, 5))])), None)
        self.same(search_dating(Book(6, ())), (0, 0, 0, 0, 0, 0))

    def test_without_dates(self):
        self.same(search_dating(Book(0, ())), ())

    def test_too_many(self):
        self.wrong(TooMany, {"most": 6}, search_dating, Book(7, ()))

    def test_nothing_is_changed(self):
        self.unchanged(search_dating, Book(3, [(before_relation(), (2, 0))]))
        self.unchanged(misled_by, Book(3, [(between_relation(), (2, 0, 1))]))


class MisledTests(Checks):

    def check_misled(self, book, misled, datings):
        """The lots fit one after another, the dating goes on behind all but the last, and none behind all."""
        self.assertIs(type(misled), Misled)
        left = left_of(book)
        for lot in misled.lots:
            self.assertIn(lot, all_fitting(left))
            left = left.take_lot(lot)
        self.same(misled.lots, left.lots)
        self.assertGreater(len(misled.lots), 0)
        self.same(misled.dating, tuple(misled.dating))
        self.assertIn(misled.dating, datings)
        self.assertEqual(layers(misled.dating)[:len(misled.lots) - 1], misled.lots[:-1])
        self.assertFalse([row for row in datings if layers(row)[:len(misled.lots)] == misled.lots])

    def test_any_books(self):
        found = 0
        for book in ALL_BOOKS:
            datings = datings_as_told(book)
            misled = misled_by(book)
            if misled is None:
                if book.size < 5:
                    self.assertEqual(misleading_lots(left_of(book), datings), [])
            else:
                found += 1
                self.check_misled(book, misled, datings)
        self.assertGreater(found, 10)

    def test_what_can_be_taken_over_is_never_misled(self):
        for book in ALL_BOOKS:
            if not_over(book) is None:
                self.assertIsNone(misled_by(book))
                if 0 < book.size < 4:
                    self.assertEqual(misleading_lots(left_of(book), datings_as_told(book)), [])

    def test_a_book_without_a_dating_is_not_misled(self):
        book = Book(3, [(between_relation(), (0, 1, 2)), (before_relation(), (0, 0))])
        self.assertIsNone(misled_by(book))
        self.assertIsNone(misled_by(Book(0, ())))

    def test_a_lot_behind_others_misleads(self):
        book = Book(4, [(Relation(4, [(0, 1, 2, 3), (0, 3, 2, 1)]), (0, 1, 2, 3)), (before_relation(), (3, 2))])
        misled = misled_by(book)
        self.check_misled(book, misled, datings_as_told(book))
        self.assertEqual(misled, Misled(((0,), (1,)), (0, 3, 2, 1)))

    def test_too_many(self):
        for size in (6, 7):
            self.wrong(TooMany, {"most": 5}, misled_by, Book(size, ()))
            self.wrong(TooMany, {"most": 5}, misled_by, Book(size, [(between_relation(), (0, 1, 2))]))
        self.assertIsNone(misled_by(Book(5, ())))


class MisleadingBookTests(Checks):

    def check_book(self, relation):
        book = misleading_book(relation)
        if broken_over(relation) is None:
            self.assertIsNone(book)
            return 0
        self.assertIs(type(book), Book)
        self.assertEqual(book.size, relation.places)
        self.assertEqual(len(book), 2)
        self.same(book.facts[0], (relation, tuple(range(relation.places))))
        self.assertEqual(len(book.facts[1][0]), 1)
        self.assertEqual(len(set(book.facts[1][1])), len(book.facts[1][1]))
        misled = misled_by(book)
        self.assertIs(type(misled), Misled)
        self.assertNotEqual(datings_as_told(book), [])
        self.assertNotEqual(misleading_lots(left_of(book), datings_as_told(book)), [])
        return 1

    def test_all_relations_of_few_places(self):
        for relation in small_relations():
            if relation.places > 0:
                self.check_book(relation)
        self.assertGreater(sum(self.check_book(relation) for relation in relations_but_for_renaming(3)), 1000)

    def test_four_places(self):
        relations = thin_relations(4, 50, 3) + some_relations(4, 6) + [full_relation(4)]
        self.assertGreater(sum(map(self.check_book, relations)), 20)

    def test_between(self):
        book = misleading_book(between_relation())
        self.assertEqual(book, Book(3, [(between_relation(), (0, 1, 2)), (one_standing((1, 0)), (1, 2))]))
        self.unchanged(misleading_book, between_relation())

    def test_what_can_be_taken_over_has_no_misled_book_of_it_and_one_standing(self):
        for relation in [two_first_relation()] + [row for row in small_relations() if row.places == 2]:
            self.assertIsNone(misleading_book(relation))
            for dates in subsets(range(relation.places))[1:]:
                for standing in standings_by_trying(len(dates)):
                    book = Book(relation.places, [
                        (relation, tuple(range(relation.places))), (one_standing(standing), dates)])
                    self.assertEqual(misleading_lots(left_of(book), datings_as_told(book)), [])
