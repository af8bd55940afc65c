"""Tests of [10.1] to [10.4]."""

import random

from earliestlots.books import Book, not_over, ways_of
from earliestlots.closings import kept_by_lots
from earliestlots.edits import check_edit, edited_book, edited_through, led_back
from earliestlots.errors import BadEdit, BadStanding
from earliestlots.joining import made_equal
from earliestlots.named import (
    after_one_of, before_relation, between_relation, not_after_relation, tied_relation, unlike_relation)
from earliestlots.relations import Relation, full_relation
from tests.edithelper import NEVER_EDITS, bad_edits, edited_as_told, led_as_told, some_edit
from tests.helper import (
    DEEDS, NO_SEQUENCES, NO_STANDINGS_OF_2, Checks, datings_as_told, fits_as_told, some_books, standings_by_trying)

BEFORE = before_relation()
PLAIN = Book(2, [(BEFORE, (0, 1))])
SIZES = ((0, 2), (1, 5), (2, 20), (3, 25), (4, 15), (5, 4))
BOOKS = [book for way in ("any", "lesser", "common") for size, many in SIZES for book in some_books(way, size, many, 4)]
WORDS = ("add", "drop", "narrow", "tie", "date", "turn")


def some_cases():
    """Books with two edits for each."""
    picker = random.Random(101)
    return [(book, some_edit(picker, book)) for book in BOOKS for _ in range(2)]


class CheckEditTests(Checks):

    def test_edits(self):
        for book, edit in some_cases():
            self.same(check_edit(book, edit), edit)
            self.same(check_edit(book, list(edit)), edit)
        self.same(check_edit(PLAIN, ["add", BEFORE, [1, 0]]), ("add", BEFORE, (1, 0)))
        self.same(check_edit(PLAIN, ["add", after_one_of(4), [1, 0, 1, 1]]), ("add", after_one_of(4), (1, 0, 1, 1)))
        self.same(check_edit(PLAIN, ["tie", 1, 0]), ("tie", 1, 0))
        self.same(check_edit(PLAIN, ["date"]), ("date",))

    def test_bad_edits(self):
        for edit in bad_edits():
            for call in (check_edit, edited_book):
                self.wrong(BadEdit, {"index": 0}, call, PLAIN, edit)
            self.wrong(BadEdit, {"index": 0}, led_back, PLAIN, edit, None)
            self.wrong(BadEdit, {"index": 1}, edited_through, PLAIN, [("turn",), edit, edit])

    def test_what_the_book_must_allow(self):
        empty, large, full = Book(0, ()), Book(7, ()), Book(7, PLAIN.facts * 12)
        one = Relation(1, [(0,)])
        for book, edit in (
                (empty, ("add", one, (0,))), (empty, ("drop", 0)), (empty, ("narrow", 0, one)), (empty, ("tie", 0, 1)),
                (Book(1, ()), ("tie", 0, 1)), (Book(1, ()), ("drop", 0)), (large, ("date",)), (full, ("date",)),
                (full, ("add", one, (0,))), (full, ("drop", 12)), (full, ("narrow", 12, BEFORE)), (large, ("tie", 7, 0))):
            self.wrong(BadEdit, {"index": 0}, check_edit, book, edit)
        for book, edit in (
                (empty, ("date",)), (empty, ("turn",)), (Book(6, ()), ("date",)), (full, ("drop", 11)),
                (full, ("narrow", 11, BEFORE)), (full, ("tie", 6, 0)), (full, ("turn",)),
                (Book(7, PLAIN.facts * 11), ("add", BEFORE, (6, 6)))):
            self.same(check_edit(book, edit), edit)
            self.assertEqual(edited_book(book, edit), edited_as_told(book, edit))

    def test_nothing_is_kept_or_changed(self):
        dates = [1, 0]
        edit = ["add", BEFORE, dates]
        self.unchanged(check_edit, PLAIN, edit)
        checked, book = check_edit(PLAIN, edit), edited_book(PLAIN, edit)
        dates[0] = 0
        edit[0] = "drop"
        self.same(checked, ("add", BEFORE, (1, 0)))
        self.same(book.facts[1][1], (1, 0))


class EditedBookTests(Checks):

    def test_as_told(self):
        seen = {}
        for book, edit in some_cases():
            got = edited_book(book, list(edit))
            self.assertEqual(got, edited_as_told(book, edit))
            self.same([dates for _, dates in got.facts], [dates for _, dates in edited_as_told(book, edit).facts])
            seen[edit[0]] = seen.get(edit[0], 0) + 1
        self.assertGreater(min(seen[word] for word in WORDS), 20)

    def test_tie(self):
        book = Book(5, [(between_relation(), (4, 1, 3)), (BEFORE, (0, 2))])
        for edit in (("tie", 1, 3), ("tie", 3, 1)):
            self.assertEqual(edited_book(book, edit), Book(4, [(between_relation(), (3, 1, 1)), (BEFORE, (0, 2))]))
        self.assertEqual(edited_book(book, ("tie", 0, 4)), Book(4, [(between_relation(), (0, 1, 3)), (BEFORE, (0, 2))]))
        self.assertEqual(edited_book(PLAIN, ("tie", 1, 0)), Book(1, [(BEFORE, (0, 0))]))

    def test_add_is_not_made_equal(self):
        book = edited_book(PLAIN, ("add", unlike_relation(), [1, 1]))
        self.assertEqual(book, Book(2, [(BEFORE, (0, 1)), (unlike_relation(), (1, 1))]))

    def test_narrow_drop_date_turn(self):
        book = Book(2, [(not_after_relation(), (0, 1)), (BEFORE, (1, 0))])
        self.assertEqual(edited_book(book, ("narrow", 0, unlike_relation())), Book(2, [(BEFORE, (0, 1)), book.facts[1]]))
        self.assertEqual(edited_book(book, ("drop", 0)), Book(2, book.facts[1:]))
        self.assertEqual(edited_book(book, ("date",)), Book(3, book.facts))
        self.assertEqual(edited_book(PLAIN, ("turn",)), Book(2, [(Relation(2, [(1, 0)]), (0, 1))]))

    def test_nothing_is_changed(self):
        for edit in (["add", BEFORE, [1, 0]], ["drop", 0], ["narrow", 0, tied_relation()], ["tie", 1, 0], ["date"],
                     ["turn"]):
            self.unchanged(edited_book, PLAIN, edit)
            self.unchanged(edited_through, PLAIN, [edit])


class EditedThroughTests(Checks):

    def test_one_after_another(self):
        picker = random.Random(102)
        for book in BOOKS:
            edits, held = [], book
            for _ in range(picker.randint(0, 6)):
                edits.append(some_edit(picker, held))
                held = edited_as_told(held, edits[-1])
            self.assertEqual(edited_through(book, edits), held)
            self.assertEqual(edited_through(book, tuple(list(edit) for edit in edits)), held)

    def test_errors(self):
        for wrong in NO_SEQUENCES:
            self.wrong(BadEdit, {"index": -1}, edited_through, PLAIN, wrong)
        self.assertEqual(edited_through(PLAIN, []), PLAIN)
        tie, date, drop = ("tie", 0, 1), ("date",), ("drop", 0)
        self.wrong(BadEdit, {"index": 0}, edited_through, PLAIN, tie)
        self.wrong(BadEdit, {"index": 1}, edited_through, PLAIN, [tie, tie, None])
        self.wrong(BadEdit, {"index": 1}, edited_through, PLAIN, [drop, drop])
        self.wrong(BadEdit, {"index": 3}, edited_through, PLAIN, [date, tie, tie, tie])
        self.wrong(BadEdit, {"index": 5}, edited_through, PLAIN, [date] * 6)
        self.wrong(BadEdit, {"index": 11}, edited_through, PLAIN, [["add", BEFORE, [0, 1]]] * 12)
        self.assertEqual(edited_through(PLAIN, [date, tie, tie]), Book(1, [(BEFORE, (0, 0))]))


class LedBackTests(Checks):

    def test_as_told(self):
        for book, edit in some_cases():
            size = edited_as_told(book, edit).size
            for standing in standings_by_trying(size)[::1 if size < 4 else 17]:
                self.same(led_back(book, edit, standing), led_as_told(book, edit, standing))
                self.same(led_back(book, list(edit), list(standing)), led_as_told(book, edit, standing))

    def test_examples(self):
        book = Book(4, [(BEFORE, (0, 1))])
        self.same(led_back(book, ("tie", 3, 1), [2, 0, 1]), (2, 0, 1, 0))
        self.same(led_back(book, ("tie", 0, 2), (2, 0, 1)), (2, 0, 2, 1))
        self.same(led_back(book, ("date",), [1, 1, 2, 3, 0]), (0, 0, 1, 2))
        self.same(led_back(book, ("turn",), (0, 0, 2, 1)), (2, 2, 0, 1))
        self.same(led_back(Book(0, ()), ("date",), (0,)), ())
        self.same(led_back(Book(0, ()), ("turn",), []), ())
        self.same(led_back(Book(6, ()), ("date",), [0, 1, 2, 3, 4, 6, 5]), (0, 1, 2, 3, 4, 5))

    def test_errors(self):
        book = Book(3, PLAIN.facts)
        for wrong, index in NO_STANDINGS_OF_2:
            self.wrong(BadStanding, {"index": index}, led_back, book, ("tie", 0, 1), wrong)
            self.wrong(BadStanding, {"index": index}, led_back, Book(1, ()), ("date",), wrong)
            for edit in (("add", BEFORE, (1, 0)), ("drop", 0), ("narrow", 0, BEFORE), ("turn",)):
                self.wrong(BadStanding, {"index": index}, led_back, PLAIN, edit, wrong)
        for wrong in NEVER_EDITS:
            self.wrong(BadEdit, {"index": 0}, led_back, PLAIN, wrong, (0, 1))

    def test_nothing_is_changed(self):
        for edit, dating in ((["tie", 2, 0], [0, 1]), (["date"], [1, 0, 2, 0]), (["turn"], [0, 1, 1])):
            self.unchanged(led_back, Book(3, PLAIN.facts), edit, dating)


class WhatEditsDoTests(Checks):

    def test_what_fits(self):
        for book, edit in some_cases():
            if book.size > 4:
                continue
            edited = edited_book(book, edit)
            datings, others = datings_as_told(edited), datings_as_told(book)
            for standing in standings_by_trying(edited.size):
                back = led_back(book, edit, standing)
                if edit[0] == "drop":
                    kept = [fact for number, fact in enumerate(book.facts) if number != edit[1]]
                    wanted = all(fits_as_told(back, fact) for fact in kept)
                else:
                    wanted = back in others and all(fits_as_told(standing, fact) for fact in self.new_facts(book, edit))
                self.assertEqual(standing in datings, wanted)

    def new_facts(self, book, edit):
        """What the edit asks of a dating besides."""
        if edit[0] == "add":
            return [edit[1:]]
        return [(edit[2], book.facts[edit[1]][1])] if edit[0] == "narrow" else []

    def test_a_tied_book_has_the_datings_with_the_tie(self):
        picker = random.Random(104)
        for book in BOOKS:
            if 1 < book.size < 5:
                one, other = picker.sample(range(book.size), 2)
                edit = ("tie", one, other)
                led = [led_back(book, edit, dating) for dating in datings_as_told(edited_book(book, edit))]
                tied = [dating for dating in datings_as_told(book) if dating[one] == dating[other]]
                self.assertEqual(sorted(led), tied)

    def test_ways_are_kept(self):
        for book, edit in some_cases():
            edited = edited_book(book, edit)
            held = set(ways_of(book))
            over = not_over(book) is None
            if edit[0] in ("add", "narrow"):
                relation, dates = edit[1:] if edit[0] == "add" else (edit[2], book.facts[edit[1]][1])
                alone = Book(book.size, [(relation, dates)])
                equal = made_equal(relation, dates)[0]
                held = {deed for deed in held if kept_by_lots(equal, deed)}
                over = over and not_over(alone) is None
            if edit[0] != "turn":
                self.assertTrue(held <= set(ways_of(edited)), edit)
                self.assertTrue(not over or not_over(edited) is None)
        self.assertEqual(ways_of(Book(3, [(after_one_of(3), (0, 1, 2))])), DEEDS)

    def test_turn_need_not_keep_a_way(self):
        book = Book(3, [(after_one_of(3), (0, 1, 2)), (full_relation(2), (0, 1))])
        self.assertEqual(ways_of(edited_book(book, ("turn",))), ())
        self.assertEqual(edited_through(book, [("turn",), ("turn",)]), book)
