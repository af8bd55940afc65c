"""Tests of [9.5]."""

import random

from earliestlots.books import Book
from earliestlots.errors import BadPool, BadWish, TooMany
from earliestlots.named import before_relation, not_after_relation, tied_relation, unlike_relation
from earliestlots.picking import pick_facts
from earliestlots.relations import Relation
from tests.helper import NO_FACTS, NO_SEQUENCES, Checks, datings_as_told, fits_as_told, some_books, some_fact, subsets

BEFORE = before_relation()
DATED = [("dated",)]
# The facts of [9.6].
POOL = [(BEFORE, (0, 1)), (BEFORE, (1, 2)), (BEFORE, (2, 0)), (unlike_relation(), (0, 2))]


def is_granted(wish, datings):
    """Whether a book with these datings grants the wish."""
    if wish[0] == "dated":
        return datings != []
    if wish[0] == "not dated":
        return datings == []
    held = [fits_as_told(dating, wish[1]) for dating in datings]
    return all(held) if wish[0] == "surely" else any(held)


def picked_as_told(book, pool, wishes):
    """What pick_facts returns, by trying all lots of the pool."""
    datings = datings_as_told(book)
    for lot in subsets(range(len(pool))):
        held = [row for row in datings if all(fits_as_told(row, pool[number]) for number in lot)]
        if all(is_granted(wish, held) for wish in wishes):
            return lot
    return None


def some_wish(picker, size):
    """A wish about so many dates."""
    word = picker.choice(("dated", "not dated", "surely", "surely", "may be", "may be"))
    if "dated" in word:
        return (word,)
    return [word, some_fact(picker, "any", size)]


class PickFactsTests(Checks):

    def test_against_all_lots_of_the_pool(self):
        picker = random.Random(95)
        found = {}
        for size, many in ((1, 6), (2, 30), (3, 30), (4, 12)):
            for book in some_books("any", size, many, 2) + [Book(size, ())] * (many // 2):
                pool = [some_fact(picker, "any", size) for _ in range(picker.randint(1, 5))]
                for _ in range(4):
                    wishes = [some_wish(picker, size) for _ in range(picker.choice((1, 1, 2, 2, 3, 4)))]
                    wanted = picked_as_told(book, pool, wishes)
                    self.same(pick_facts(book, pool, wishes), wanted)
                    key = None if wanted is None else len(wanted)
                    found[key] = found.get(key, 0) + 1
        for key in (None, 0, 1, 2):
            self.assertGreater(found[key], 8, found)

    def test_examples(self):
        empty = Book(3, ())
        self.same(pick_facts(empty, POOL, [("surely", (BEFORE, (0, 2)))]), (0, 1))
        self.same(pick_facts(empty, POOL, [("not dated",)]), (0, 1, 2))
        self.same(pick_facts(empty, POOL, [("surely", (BEFORE, (0, 2))), ("not dated",)]), (0, 1, 2))
        self.same(pick_facts(empty, POOL, [("surely", (BEFORE, (0, 2))), ("may be", (BEFORE, (2, 0)))]), None)
        self.same(pick_facts(empty, POOL, [("surely", POOL[3]), ("dated",)]), (2,))
        self.same(pick_facts(empty, POOL, DATED), ())
        self.same(pick_facts(empty, POOL, [("may be", (tied_relation(), (0, 2)))]), ())

    def test_the_lot_without_facts(self):
        fact = (BEFORE, (1, 0))
        loop = Book(2, [(BEFORE, (0, 1)), (BEFORE, (1, 0))])
        self.same(pick_facts(loop, [fact], [("not dated",)]), ())
        self.same(pick_facts(loop, [fact], [("surely", (tied_relation(), (0, 1)))]), ())
        self.same(pick_facts(loop, [fact], DATED), None)
        self.same(pick_facts(loop, [fact], [("may be", fact)]), None)

    def test_entries_that_are_alike(self):
        wish = [["surely", [BEFORE, [0, 1]]]]
        self.same(pick_facts(Book(2, ()), [(BEFORE, (0, 1))] * 5, wish), (0,))
        tie = (not_after_relation(), (0, 1))
        self.same(pick_facts(Book(2, ()), [tie, tie, (unlike_relation(), (0, 1)), tie], wish), (0, 2))
        self.same(pick_facts(Book(2, ()), [tie] * 5, [("not dated",)]), None)

    def test_a_date_twice(self):
        never = (BEFORE, (0, 0))
        self.same(pick_facts(Book(1, ()), [(tied_relation(), (0, 0)), never], [("not dated",)]), (1,))
        self.same(pick_facts(Book(1, ()), [never], [("may be", never)]), None)
        self.same(pick_facts(Book(1, ()), [never], [("surely", never)]), (0,))

    def test_no_dates(self):
        self.wrong(BadPool, {"index": 0}, pick_facts, Book(0, ()), [(Relation(1, [(0,)]), (0,))], DATED)

    def test_bounds(self):
        own = [(BEFORE, (0, 1))] * 6
        pool = [(BEFORE, (date, date + 1)) for date in range(1, 5)] + [(tied_relation(), (5, 0))]
        wish = [("surely", (BEFORE, (0, 5))), ("dated",), ("may be", (BEFORE, (1, 4))), ("dated",)]
        self.same(pick_facts(Book(6, own), pool, wish), (0, 1, 2, 3))
        self.same(pick_facts(Book(6, own[:1] * 10), pool[:1], [("surely", (BEFORE, (0, 2)))]), (0,))

    def test_errors_of_the_book(self):
        fact = (BEFORE, (0, 1))
        for pool in (None, [fact], [None]):
            self.wrong(TooMany, {"most": 6}, pick_facts, Book(7, ()), pool, None)
            self.wrong(TooMany, {"most": 6}, pick_facts, Book(7, [fact] * 12), pool, None)
            self.wrong(TooMany, {"most": 11}, pick_facts, Book(6, [fact] * 12), pool, None)

    def test_bad_pool(self):
        book, fact = Book(2, [(BEFORE, (0, 1))] * 11), (BEFORE, (0, 1))
        for wrong in NO_SEQUENCES + ((), [], [fact] * 6, [None] * 6, {fact[1]: 0}):
            self.wrong(BadPool, {"index": -1}, pick_facts, book, wrong, None)
        for wrong, _ in NO_FACTS:
            self.wrong(BadPool, {"index": 0}, pick_facts, book, [wrong, wrong], None)
            self.wrong(BadPool, {"index": 4}, pick_facts, book, (fact, fact, fact, fact, wrong), DATED)

    def test_too_many_together(self):
        fact = (BEFORE, (0, 1))
        for own, pool in ((11, 1), (7, 5), (10, 2)):
            for wishes in (DATED, None, [None]):
                self.wrong(TooMany, {"most": 11}, pick_facts, Book(2, [fact] * own), [fact] * pool, wishes)
        self.same(pick_facts(Book(2, [fact] * 10), [fact], DATED), ())

    def test_bad_wishes(self):
        book, pool = Book(2, ()), [(BEFORE, (0, 1))]
        for wrong in NO_SEQUENCES + ((), [], DATED * 5, [None] * 5):
            self.wrong(BadWish, {"index": -1}, pick_facts, book, pool, wrong)
        forms = NO_SEQUENCES + (
            (), [], ("Dated",), ("dated", pool[0]), ("not dated", pool[0]), ("surely",), ("may be",), (None,),
            ("surely", pool[0], pool[0]), ("may be", BEFORE, (0, 1)), ("maybe", pool[0]), (["dated"],), ("", pool[0]),
            {"dated": 1}, {"dated"}, (("dated",),))
        for wrong in forms + tuple((word, fact) for word in ("surely", "may be") for fact, _ in NO_FACTS):
            self.wrong(BadWish, {"index": 0}, pick_facts, book, pool, [wrong, wrong])
            self.wrong(BadWish, {"index": 2}, pick_facts, book, pool, (("dated",), ["not dated"], wrong))

    def test_nothing_is_changed(self):
        self.unchanged(pick_facts, Book(3, ()), [[BEFORE, [0, 1]], (BEFORE, (1, 2))],
                       [["surely", [BEFORE, [0, 2]]], ["dated"]])
