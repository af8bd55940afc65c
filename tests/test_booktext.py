"""Tests of [1.11] and [1.12]."""

import random

from earliestlots.books import Book
from earliestlots.booktext import book_of_text, book_text
from earliestlots.errors import BadText
from earliestlots.named import before_relation
from earliestlots.relations import Relation, empty_relation, full_relation
from tests.helper import DEEDS, NO_SEQUENCES, Checks, some_books

EXAMPLE = "dates 3\n0 1: 0 1\n1 2 0: 0 0 1, 1 0 0"
EXAMPLE_BOOK = Book(3, [(before_relation(), (0, 1)), (Relation(3, [(1, 0, 0), (0, 0, 1)]), (1, 2, 0))])
BOOKS = [book for way in DEEDS + ("any",) for size in range(8) for book in some_books(way, size, 10, 12)]


def text_as_told(book):
    """The text of the book."""
    rows = ["dates " + str(book.size)]
    for relation, dates in book.facts:
        members = ", ".join(" ".join(map(str, row)) for row in sorted(relation.members)) or "none"
        rows.append(" ".join(map(str, dates)) + ": " + members)
    return "\n".join(rows)


class WritingTests(Checks):

    def test_the_example(self):
        self.same(book_text(EXAMPLE_BOOK), EXAMPLE)
        self.assertEqual(book_of_text(EXAMPLE), EXAMPLE_BOOK)

    def test_books(self):
        for book in BOOKS:
            text = book_text(book)
            self.same(text, text_as_told(book))
            self.assertEqual(book_of_text(text), book)
            self.same(book_text(book_of_text(text)), text)
            self.same(book_of_text(text).facts, book.facts)

    def test_without_facts_or_members(self):
        for size in range(8):
            self.same(book_text(Book(size, ())), f"dates {size}")
            self.assertEqual(book_of_text(f"dates {size}"), Book(size, ()))
        book = Book(2, [(empty_relation(1), (1,)), (empty_relation(4), (1, 0, 0, 1))])
        self.same(book_text(book), "dates 2\n1: none\n1 0 0 1: none")
        self.assertEqual(book_of_text("dates 2\n1: none\n1 0 0 1: none"), book)

    def test_the_greatest_book(self):
        book = Book(7, [(full_relation(4), (6, 6, 5, 0))] * 12)
        self.assertEqual(book_of_text(book_text(book)), book)
        self.assertEqual(book_text(book).count("\n"), 12)


class ReadingTests(Checks):

    def bad(self, text, place):
        self.wrong(BadText, {"place": place}, book_of_text, text)

    def test_no_string(self):
        for thing in NO_SEQUENCES + ((), [], ("dates 3",), b"dates 3"):
            if not isinstance(thing, str):
                self.bad(thing, -1)

    def test_row_0(self):
        for row in ("", "dates", "dates ", "dates 8", "dates -1", "dates 10", "dates 03", "dates 3 ", " dates 3",
                    "dates  3", "Dates 3", "date 3", "dates\t3", "dates 3\r", "dates +3", "dates x", "3", "dates 3:",
                    "dates 3.", "0 1: 0 1", "dates dates 3", "dates \u0663", "dates 12"):
            self.bad(row, 0)
            self.bad(row + "\n0 1: 0 1", 0)
            self.bad(row + "\nx", 0)

    def test_further_rows(self):
        for row in (
                "", " ", "0", "0 1", "0 1:", "0 1: ", "0 1:0 1", "0 1 : 0 1", " 0 1: 0 1", "0 1: 0 1 ", "0  1: 0 1",
                "0 1:  0 1", "0 1: 0  1", "0 1: 0 1,1 0", "0 1: 0 1,  1 0", "0 1: 0 1, ", "0 1: , 0 1", ": 0 1",
                ": none", ": ", "0 1: None", "0 1: none ", "0 1: none, none", "0 1: none, 0 1", "0 1: 0 1, none",
                "0 3: 0 1", "0 7: 0 1", "0 -1: 0 1", "0 x: 0 1", "0 01: 0 1", "0 1.: 0 1", "0, 1: 0 1",
                "0 1: 0 1: 1 0", "0 1: : 0 1", "0 1:: 0 1", "0: 1: 0 1", "0 1 2 0 1: none", "0 1: 0", "0 1: 0 1 2",
                "0 1 2: 0 1", "0 1: 0 2", "0 1: 1 1", "0 1: 0 -1", "0 1: 0 x", "0 1: 0 01", "0 1: 0 1, 0 0",
                "0 1: 0 1, 0 1", "0 1: 1 0, 0 1", "0 1: 0 0, 1 0, 0 1", "0 1: 0 1\r", "0 1: 0\t1", "0: 1", "0: 0, 0",
                "dates 3", "none", "0 1:none", "0 \u0661: 0 1"):
            self.bad("dates 3\n" + row, 1)
            self.bad("dates 3\n" + row + "\n0 1: 0 1", 1)
            self.bad(EXAMPLE + "\n" + row + "\nx", 3)

    def test_rows_that_just_fit(self):
        for row in ("0: 0", "0: none", "2 2 2 2: 0 0 0 0", "0 1: 0 0, 0 1, 1 0", "2 0: 1 0"):
            text = "dates 3\n" + row
            self.same(book_text(book_of_text(text)), text)

    def test_no_date_is_below_size_0(self):
        for row in ("0: 0", "0: none"):
            self.bad("dates 0\n" + row, 1)
        self.bad("dates 1\n1: 0", 1)
        self.bad("dates 7\n7: 0", 1)

    def test_an_empty_last_row_does_not_fit(self):
        self.bad("dates 3\n", 1)
        self.bad(EXAMPLE + "\n", 3)
        self.bad("\n" + EXAMPLE, 0)
        self.bad("dates 3\n\n0 1: 0 1", 1)

    def test_row_13_never_fits(self):
        rows = ["dates 3"] + ["0 1: 0 1"] * 12
        self.assertEqual(len(book_of_text("\n".join(rows))), 12)
        self.bad("\n".join(rows + ["0 1: 0 1"]), 13)
        self.bad("\n".join(rows + ["0 1: 0 1"] * 5), 13)
        self.bad("\n".join(rows + [""]), 13)
        self.bad("\n".join(rows[:12] + ["x", "0 1: 0 1"]), 12)

    def test_a_row_doubled(self):
        text = "dates 3\n0 1: 0 1\n0 1: 0 1"
        self.assertEqual(book_of_text(text), Book(3, [(before_relation(), (0, 1))] * 2))

    def test_spoiled_texts_are_refused_or_written_so(self):
        picker = random.Random(112)
        refused = 0
        for book in BOOKS:
            text = book_text(book)
            for _ in range(12):
                at = picker.randint(0, len(text))
                sign = picker.choice(["", " ", ",", ":", "\n", "0", "1", "6", "7", "none", ": ", ", "])
                spoiled = text[:at] + sign + text[at + picker.randint(0, 2):]
                try:
                    again = book_text(book_of_text(spoiled))
                except BadText as wrong:
                    refused += 1
                    self.assertIn(wrong.place, range(spoiled.count("\n") + 1))
                else:
                    self.assertEqual(again, spoiled)
        self.assertGreater(refused, 1000)
