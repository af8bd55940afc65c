"""Tests of [5.7] and [5.8]."""

import random

from earliestlots.books import Book, ways_of
from earliestlots.errors import BadDeed, NotStuck, NoWay
from earliestlots.finders import grown_lot, sums_basis, unstruck_dates
from earliestlots.named import before_relation, between_relation, tied_relation, two_first_relation, unlike_relation
from earliestlots.papers import Stripped, Stuck, paper_fault, paper_of, strip_book, strip_fault
from earliestlots.relations import Relation, empty_relation, full_relation
from earliestlots.stripping import all_fitting, knot_of, left_of
from tests.helper import (
    DEEDS, NO_DEEDS, NO_NUMBERS, NO_SEQUENCES, Checks, datings_as_told, facts_as_told, some_books, some_lefts,
    standing_with, subsets)

BEFORE = before_relation()
LOOP = Book(2, [(BEFORE, (0, 1)), (BEFORE, (1, 0))])
SIZES = ((0, 1), (1, 6), (2, 20), (3, 30), (4, 30), (5, 15), (7, 5))
BOOKS = {way: [book for size, many in SIZES for book in some_books(way, size, many, 6)]
         for way in DEEDS + ("over", "any")}
LEFTS = {way: some_lefts(way) for way in DEEDS + ("any",)}
ALL_LEFTS = [left for lefts in LEFTS.values() for left in lefts]
WORDS = {"lesser": "struck", "odd": "sums", "common": "grown"}


def found_as_told(left, way):
    """The lot that the way's finder finds, or None."""
    if way == "lesser":
        return unstruck_dates(left) or None
    if way == "odd":
        return (sums_basis(left) or (None,))[0]
    return next((grown_lot(left, date) for date in left.dates if grown_lot(left, date) is not None), None)


def is_number(thing, among):
    return type(thing) is int and thing in among


def lot_in(lot, dates):
    """Whether this is a list or tuple of one or more unlike dates of these."""
    return (isinstance(lot, (list, tuple)) and len(lot) > 0 and all(is_number(date, dates) for date in lot)
            and len(set(lot)) == len(lot))


def struck_word(left, facts, rows):
    struck = set()
    for date, fact in rows:
        if not is_number(date, left.dates) or date in struck:
            return "date"
        if not is_number(fact, range(len(facts))) or date not in facts[fact][0]:
            return "fact"
        if any(date in lot and not lot & struck for lot in facts[fact][1]):
            return "row"
        struck.add(date)
    return None if struck == set(left.dates) else "end"


def sums_word(left, facts, rows):
    shown = set()
    for date, steps in rows:
        if not is_number(date, left.dates) or date in shown:
            return "date"
        total = set()
        for fact, equation in steps:
            if not is_number(fact, range(len(facts))):
                return "fact"
            dates, lots = facts[fact]
            if not lot_in(equation, dates) or any(len(lot & set(equation)) % 2 for lot in lots):
                return "row"
            total ^= set(equation)
        if total != {date}:
            return "sum"
        shown.add(date)
    return None if shown == set(left.dates) else "end"


def grown_word(left, facts, rows):
    shown = set()
    for date, steps, last in rows:
        if not is_number(date, left.dates) or date in shown:
            return "date"
        grown = {date}
        for fact, lot in list(steps) + [(last, "last")]:
            if not is_number(fact, range(len(facts))) or not grown & set(facts[fact][0]):
                return "fact"
            dates, lots = facts[fact]
            holding = [other for other in lots if grown & set(dates) <= other]
            if lot == "last":
                if holding:
                    return "last"
            elif not lot_in(lot, dates) or not all(set(lot) <= other for other in holding):
                return "row"
            else:
                grown |= set(lot)
        shown.add(date)
    return None if shown == set(left.dates) else "end"


def word_as_told(left, paper):
    """What paper_fault says of the paper."""
    judges = {"struck": struck_word, "sums": sums_word, "grown": grown_word}
    if paper[0] not in judges:
        return "way"
    return judges[paper[0]](left, facts_as_told(left), paper[1])


def as_lists(thing):
    """Lists for tuples, also within."""
    return [as_lists(part) for part in thing] if isinstance(thing, tuple) else thing


class ResultTests(Checks):

    def test_results_keep_what_they_are_given(self):
        lots, dating, paper = [0], {}, "x"
        stripped = Stripped(lots, dating)
        self.assertIs(stripped.lots, lots)
        self.assertIs(stripped.dating, dating)
        stuck = Stuck(lots, dating, paper)
        self.assertIs(stuck.lots, lots)
        self.assertIs(stuck.dates, dating)
        self.assertIs(stuck.paper, paper)
        self.assertEqual(vars(Stripped(lots=1, dating=2)), {"lots": 1, "dating": 2})
        self.assertEqual(vars(Stuck(lots=1, dates=2, paper=3)), {"lots": 1, "dates": 2, "paper": 3})

    def test_equal(self):
        self.assertTrue(Stripped(1, 2) == Stripped(1, 2))
        self.assertTrue(Stuck(1, 2, 3) == Stuck(1, 2, 3))
        for other in (Stripped(0, 2), Stripped(1, 0), (1, 2), None, Stuck(1, 2, 3)):
            self.assertFalse(Stripped(1, 2) == other)
        for other in (Stuck(0, 2, 3), Stuck(1, 0, 3), Stuck(1, 2, 0), (1, 2, 3), None, Stripped(1, 2)):
            self.assertFalse(Stuck(1, 2, 3) == other)


class StripTests(Checks):

    def check_outcome(self, book, way, outcome):
        """The outcome is what the way comes to."""
        left = left_of(book)
        while left.dates and found_as_told(left, way) is not None:
            left = left.take_lot(found_as_told(left, way))
        self.same(outcome.lots, left.lots)
        if left.dates:
            self.assertIs(type(outcome), Stuck)
            self.same(outcome.dates, left.dates)
            self.assertEqual(outcome.dates, knot_of(book))
            self.assertEqual(outcome.paper[0], WORDS[way])
            self.assertIsNone(paper_fault(left, outcome.paper))
            self.assertIsNone(word_as_told(left, outcome.paper))
        else:
            self.assertIs(type(outcome), Stripped)
            self.same(outcome.dating, standing_with(left.lots))
        self.assertIsNone(strip_fault(book, outcome))

    def test_by_each_way(self):
        for book in [book for books in BOOKS.values() for book in books]:
            ways = ways_of(book)
            for way in DEEDS:
                if way not in ways:
                    self.wrong(NoWay, {}, strip_book, book, way=way)
                    continue
                outcome = strip_book(book, way=way)
                self.check_outcome(book, way, outcome)
                self.assertEqual(strip_book(book, way=way), outcome)
                if book.size < 6:
                    self.assertEqual(type(outcome) is Stripped, datings_as_told(book) != [])
            if ways:
                self.assertEqual(strip_book(book), strip_book(book, way=ways[0]))
                self.assertEqual(strip_book(book, way=None), strip_book(book, way=ways[0]))
            else:
                self.wrong(NoWay, {}, strip_book, book)

    def test_what_is_tried_is_of_many_kinds(self):
        for way in DEEDS:
            kinds = [type(strip_book(book, way=way)) for book in BOOKS[way]]
            self.assertGreater(kinds.count(Stuck), 20)
            self.assertGreater(kinds.count(Stripped), 20)
        self.assertGreater(sum(ways_of(book) == () for book in BOOKS["over"]), 10)

    def test_dating_and_lots_are_tuples_within(self):
        outcome = strip_book(Book(2, [(BEFORE, (0, 1))]))
        self.assertEqual(outcome, Stripped(((0,), (1,)), (0, 1)))
        self.same((outcome.lots, outcome.dating), (((0,), (1,)), (0, 1)))

    def test_the_ways_may_come_to_other_datings(self):
        book = Book(3, [(BEFORE, (1, 2))])
        self.assertEqual(strip_book(book), Stripped(((0, 1), (2,)), (0, 0, 1)))
        self.assertEqual(strip_book(book, way="odd"), Stripped(((0,), (1,), (2,)), (0, 1, 2)))
        self.assertEqual(strip_book(book, way="common"), Stripped(((0,), (1,), (2,)), (0, 1, 2)))

    def test_without_dates_or_facts(self):
        for way in DEEDS + (None,):
            self.assertEqual(strip_book(Book(0, ()), way=way), Stripped((), ()))
        self.assertEqual(strip_book(Book(3, ())), Stripped(((0, 1, 2),), (0, 0, 0)))
        self.assertEqual(strip_book(Book(2, ()), way="odd"), Stripped(((0,), (1,)), (0, 1)))

    def test_the_example(self):
        outcome = strip_book(LOOP)
        self.assertEqual(outcome, Stuck((), (0, 1), ("struck", ((0, 1), (1, 0)))))
        self.same(outcome.paper, ("struck", ((0, 1), (1, 0))))

    def test_errors(self):
        no_way = Book(3, [(two_first_relation(), (0, 1, 2)), (unlike_relation(), (0, 1))])
        self.assertEqual(ways_of(no_way), ())
        for thing in NO_DEEDS:
            if thing is not None:
                for book in (LOOP, no_way, Book(0, ())):
                    self.wrong(BadDeed, {}, strip_book, book, way=thing)
        self.wrong(NoWay, {}, strip_book, no_way)
        self.wrong(NoWay, {}, strip_book, Book(3, [(between_relation(), (0, 1, 2))]))
        self.wrong(NoWay, {}, strip_book, Book(2, [(unlike_relation(), (0, 1))]), way="lesser")
        with self.assertRaises(TypeError):
            strip_book(LOOP, "lesser")

    def test_nothing_is_changed(self):
        for book in (LOOP, Book(3, [(two_first_relation(), (2, 0, 1))])):
            self.unchanged(strip_book, book)


class PaperOfTests(Checks):

    def test_papers_of_all_lefts(self):
        made = dict.fromkeys(DEEDS, 0)
        for left in ALL_LEFTS:
            for way in DEEDS:
                if not left.dates or found_as_told(left, way) is not None:
                    self.wrong(NotStuck, {}, paper_of, left, way)
                    continue
                paper = paper_of(left, way)
                made[way] += 1
                self.assertEqual(paper[0], WORDS[way])
                self.assertIsNone(paper_fault(left, paper))
                self.assertIsNone(word_as_told(left, paper))
                self.assertIsNone(paper_fault(left, as_lists(paper)))
                self.same(paper_of(left, way), paper)
                self.assertEqual(str(as_lists(paper)), str(paper).replace(",)", ")").replace("(", "[").replace(")", "]"))
                self.assertEqual(all_fitting(left), ())
        self.assertGreater(min(made.values()), 100)

    def test_kept_by_a_deed_nothing_fits_exactly_if_there_is_a_paper(self):
        for way in DEEDS:
            for left in LEFTS[way]:
                if left.dates and not all_fitting(left):
                    self.assertIsNone(paper_fault(left, paper_of(left, way)))
                else:
                    self.wrong(NotStuck, {}, paper_of, left, way)

    def test_errors(self):
        for left in (left_of(Book(0, ())), left_of(LOOP)):
            for thing in NO_DEEDS:
                self.wrong(BadDeed, {}, paper_of, left, thing)
        for way in DEEDS:
            self.wrong(NotStuck, {}, paper_of, left_of(Book(0, ())), way)
            self.wrong(NotStuck, {}, paper_of, left_of(Book(1, ())), way)


class PaperFaultTests(Checks):

    def spoiled(self, picker, left, paper):
        """The paper with one thing in it changed."""
        rows = as_lists(paper[1])
        size, facts = left.book.size, len(left.book)
        date = picker.choice(tuple(range(-1, size + 1)) + (True, None, "0", 0.0))
        fact = picker.choice(tuple(range(-1, facts + 1)) + (False, None))
        lot = picker.choice(subsets(range(size))[1:] + [(), (size,), (0, 0), (True,), None, [0]])
        kind = picker.randint(0, 7)
        at = picker.randrange(len(rows)) if rows else None
        if at is None or kind == 0:
            return (picker.choice(["lesser", paper[0]] + ([] if rows else list(WORDS.values()))), rows)
        if kind == 1:
            rows.pop(at)
        elif kind == 2:
            rows.insert(picker.randint(0, len(rows)), rows[at])
        elif kind == 3:
            picker.shuffle(rows)
        elif kind == 4:
            rows[at][0] = date
        elif paper[0] == "struck":
            rows[at][1] = fact
        elif kind == 5 and len(rows[at]) == 3:
            rows[at][2] = fact
        else:
            self.spoil_steps(picker, rows[at][1], fact, lot)
        return (paper[0], rows)

    def spoil_steps(self, picker, steps, fact, lot):
        """Changes one thing in the steps."""
        kind = picker.randint(0, 5)
        step = picker.choice(steps) if steps else None
        if step is None or kind == 0:
            steps.insert(picker.randint(0, len(steps)), [fact, lot])
        elif kind == 1:
            steps.remove(step)
        elif kind == 2:
            step[0] = fact
        elif kind == 3:
            step[1] = lot
        elif kind == 4:
            picker.shuffle(step[1])
        else:
            steps.insert(picker.randint(0, len(steps)), step)

    def test_spoiled_papers(self):
        picker = random.Random(58)
        words = {word: set() for word in WORDS.values()}
        for left in ALL_LEFTS:
            for way in DEEDS:
                if left.dates and found_as_told(left, way) is None:
                    paper = paper_of(left, way)
                    for _ in range(12):
                        spoiled = self.spoiled(picker, left, paper)
                        wanted = word_as_told(left, spoiled)
                        self.same(paper_fault(left, spoiled), wanted)
                        words[paper[0]].add(wanted)
        self.assertEqual(words["struck"], {None, "way", "date", "fact", "row", "end"})
        self.assertEqual(words["sums"], {None, "way", "date", "fact", "row", "sum", "end"})
        self.assertEqual(words["grown"], {None, "way", "date", "fact", "row", "last", "end"})

    def test_papers_behind_which_a_lot_fits_are_never_let(self):
        picker = random.Random(59)
        for left in ALL_LEFTS:
            if all_fitting(left):
                for word in WORDS.values():
                    paper = (word, ())
                    for _ in range(3):
                        self.assertIsNotNone(paper_fault(left, paper))
                        paper = self.spoiled(picker, left, (word, self.some_rows(picker, left, word)))

    def some_rows(self, picker, left, word):
        """Rows of such a paper, at random."""
        facts = facts_as_told(left)
        rows = []
        for date in picker.sample(left.dates, len(left.dates)):
            fact = picker.randrange(max(len(facts), 1))
            lots = [tuple(lot) for _, held in facts for lot in held] + [(date,)]
            steps = tuple((picker.randrange(max(len(facts), 1)), picker.choice(lots)) for _ in range(2))
            rows.append({"struck": (date, fact), "sums": (date, steps), "grown": (date, steps, fact)}[word])
        return tuple(rows)

    def test_random_rows(self):
        picker = random.Random(60)
        for left in ALL_LEFTS:
            for word in WORDS.values():
                paper = (word, self.some_rows(picker, left, word))
                self.same(paper_fault(left, paper), word_as_told(left, paper))

    def test_way(self):
        left = left_of(LOOP)
        for thing in (None, "", "lesser", "Struck", 0, True, ["struck"], ("sums",), b"grown"):
            self.same(paper_fault(left, (thing, ())), "way")
            self.same(paper_fault(left, [thing, ()]), "way")
        for thing in NO_SEQUENCES + ((), ("struck",), ("struck", (), ())):
            self.same(paper_fault(left, thing), "way")

    def test_struck_papers(self):
        left = left_of(LOOP)
        self.same(paper_fault(left, ("struck", ((0, 1), (1, 0)))), None)
        self.same(paper_fault(left, ["struck", [[1, 0], [0, 1]]]), None)
        for thing in NO_NUMBERS + (2,):
            self.same(paper_fault(left, ("struck", ((thing, None),))), "date")
            self.same(paper_fault(left, ("struck", ((0, thing),))), "fact")
        self.same(paper_fault(left, ("struck", ((0, 1), (0, 1)))), "date")
        self.same(paper_fault(left, ("struck", ((0, 0), (1, 0)))), "row")
        self.same(paper_fault(left, ("struck", ((0, 1),))), "end")
        self.same(paper_fault(left, ("struck", ())), "end")
        # The date has to be among the dates left of the fact.
        left = left_of(Book(3, [(BEFORE, (0, 1)), (BEFORE, (2, 2))]))
        self.same(paper_fault(left, ("struck", ((2, 0),))), "fact")
        # Date 2 stands in a lot of a fact until date 0 is struck.
        left = left_of(Book(3, [(tied_relation(), (0, 2)), (BEFORE, (1, 0)), (BEFORE, (0, 1))]))
        self.same(paper_fault(left, ("struck", ((2, 0), (0, 1), (1, 2)))), "row")
        self.same(paper_fault(left, ("struck", ((0, 1), (2, 0), (1, 2)))), None)

    def test_sums_papers(self):
        left = left_of(LOOP)
        self.same(paper_fault(left, ("sums", ((0, ((1, (0,)),)), (1, ((0, (1,)),))))), None)
        self.same(paper_fault(left, ["sums", [[1, [[0, [1]]]], [0, [[1, [0]], [0, [1]], [0, [1]]]]]]), None)
        for thing in NO_NUMBERS + (2,):
            self.same(paper_fault(left, ("sums", ((thing, ((0, (1,)),)),))), "date")
            self.same(paper_fault(left, ("sums", ((0, ((thing, (1,)),)),))), "fact")
        for thing in NO_SEQUENCES + ((), (0,), (1, 1), (2,), (True,), (0, 1)):
            self.same(paper_fault(left, ("sums", ((1, ((0, thing),)),))), "row")
        self.same(paper_fault(left, ("sums", ((0, ((0, (1,)),)),))), "sum")
        self.same(paper_fault(left, ("sums", ((0, ()),))), "sum")
        self.same(paper_fault(left, ("sums", ((1, ((0, (1,)),)), (1, ())))), "date")
        self.same(paper_fault(left, ("sums", ((1, ((0, (1,)),)),))), "end")

    def test_sums_papers_with_lots_in_any_order(self):
        book = Book(3, [(two_first_relation(), (0, 1, 2)), (empty_relation(2), (1, 2))])
        left = left_of(book)
        self.same(paper_fault(left, ("sums", ((0, ((0, (2, 0, 1)), (1, (2, 1)))), (1, ((1, (1,)),)), (2, ((1, [2]),))))), None)
        self.same(paper_fault(left, ("sums", ((0, ((0, (2, 0)),)),))), "row")

    def test_grown_papers(self):
        left = left_of(LOOP)
        self.same(paper_fault(left, ("grown", ((0, (), 1), (1, (), 0)))), None)
        self.same(paper_fault(left, ["grown", [[1, [], 0], [0, [[0, [0]], [0, (0,)]], 1]]]), None)
        for thing in NO_NUMBERS + (2,):
            self.same(paper_fault(left, ("grown", ((thing, (), 1),))), "date")
            self.same(paper_fault(left, ("grown", ((0, ((thing, (0,)),), 1),))), "fact")
            self.same(paper_fault(left, ("grown", ((0, (), thing),))), "fact")
        for thing in NO_SEQUENCES + ((), (1,), (0, 0), (2,), (False,), (0, 1)):
            self.same(paper_fault(left, ("grown", ((0, ((0, thing),), 1),))), "row")
        self.same(paper_fault(left, ("grown", ((0, (), 0),))), "last")
        self.same(paper_fault(left, ("grown", ((0, (), 1), (0, (), 1)))), "date")
        self.same(paper_fault(left, ("grown", ((0, (), 1),))), "end")

    def test_grown_papers_with_steps(self):
        book = Book(4, [(tied_relation(), (0, 1)), (tied_relation(), (1, 2)), (BEFORE, (3, 2)), (empty_relation(1), (3,))])
        left = left_of(book)
        rows = ((1, (), None), (2, (), 2), (3, (), 3))
        self.same(paper_fault(left, ("grown", ((0, ((0, (1, 0)), (1, (2,))), 2), (1, ((1, (2, 1)),), 2)) + rows[1:])), None)
        # None of the dates grown so far is in fact 1, in fact 2 or in fact 3.
        self.same(paper_fault(left, ("grown", ((0, ((1, (2,)),), 2),))), "fact")
        self.same(paper_fault(left, ("grown", ((0, ((0, (1,)),), 2),))), "fact")
        self.same(paper_fault(left, ("grown", ((0, ((0, (1,)), (1, (2,))), 3),))), "fact")
        self.same(paper_fault(left, ("grown", ((0, ((0, (1,)), (1, (2,))), 1),))), "last")
        # A fact that has no lot with the grown dates lets any lot of its dates be added.
        self.same(paper_fault(left, ("grown", ((2, ((2, (3,)),), 3),))), "end")

    def test_behind_all_dates(self):
        left = left_of(Book(1, ())).take_lot((0,))
        for word in WORDS.values():
            self.same(paper_fault(left, (word, ())), None)
            self.same(paper_fault(left, (word, ((0, (), 0)[:2 if word != "grown" else 3],))), "date")

    def test_nothing_is_changed(self):
        left = left_of(LOOP)
        paper = ["grown", [[1, [], 0], [0, [[0, [0]]], 1]]]
        paper_fault(left, paper)
        self.assertEqual(paper, ["grown", [[1, [], 0], [0, [[0, [0]]], 1]]])


class StripFaultTests(Checks):

    def test_right_results_of_any_lots(self):
        picker = random.Random(61)
        for book in BOOKS["any"] + BOOKS["over"]:
            left = left_of(book)
            while all_fitting(left):
                self.same(strip_fault(book, Stripped(left.lots, None)), "left")
                self.same(strip_fault(book, Stuck(left.lots, None, None)), "dates")
                left = left.take_lot(picker.choice(all_fitting(left)))
            lots = [list(lot[::-1]) for lot in left.lots]
            if left.dates:
                self.same(strip_fault(book, Stripped(lots, None)), "left")
                for way in DEEDS:
                    if found_as_told(left, way) is None:
                        self.same(strip_fault(book, Stuck(lots, left.dates, paper_of(left, way))), None)
                    else:
                        self.same(strip_fault(book, Stuck(lots, left.dates, (WORDS[way], ()))), "end")
            else:
                self.same(strip_fault(book, Stripped(lots, standing_with(left.lots))), None)

    def test_lots(self):
        book = Book(3, [(BEFORE, (0, 1))])
        for lots in (((1,),), ((0, 1),), ((0,), (0,)), ((3,),), ((),), (None,), ((0,), 1), ("0",), ((True,),), ((0, 0),),
                     ((0,), (1,), (2,), (2,)), ((0,), (1,), (2,), ())):
            self.same(strip_fault(book, Stripped(lots, None)), "lots")
            self.same(strip_fault(book, Stuck(list(lots), None, None)), "lots")

    def test_dating(self):
        book = Book(2, [(BEFORE, (0, 1))])
        lots = ((0,), (1,))
        self.same(strip_fault(book, Stripped(lots, (0, 1))), None)
        for thing in NO_SEQUENCES + ([0, 1], (1, 0), (0, 0), (0,), (False, True), (0.0, 1.0), (0, 1, 2), ()):
            self.same(strip_fault(book, Stripped(lots, thing)), "dating")
        self.same(strip_fault(Book(0, ()), Stripped((), ())), None)
        self.same(strip_fault(Book(0, ()), Stripped([], [])), "dating")

    def test_dates(self):
        paper = ("struck", ((0, 1), (1, 0)))
        self.same(strip_fault(LOOP, Stuck((), (0, 1), paper)), None)
        self.same(strip_fault(LOOP, Stuck([], (0, 1), as_lists(paper))), None)
        for thing in NO_SEQUENCES + ([0, 1], (1, 0), (0,), (), (False, True), (0.0, 1.0), (0, 1, 2)):
            self.same(strip_fault(LOOP, Stuck((), thing, paper)), "dates")
        # There are no dates left.
        self.same(strip_fault(Book(0, ()), Stuck((), (), ("struck", ()))), "dates")
        self.same(strip_fault(Book(1, ()), Stuck(((0,),), (), ("struck", ()))), "dates")

    def test_the_words_of_papers(self):
        for paper, word in (
                (("lesser", ()), "way"), (("struck", ()), "end"), (("struck", ((0, 0),)), "row"),
                (("struck", ((2, 0),)), "date"), (("grown", ((0, (), 0),)), "last"), (("sums", ((0, ()),)), "sum"),
                (("grown", ((0, (), 2),)), "fact")):
            self.same(strip_fault(LOOP, Stuck((), (0, 1), paper)), word)

    def test_a_book_that_no_deed_keeps(self):
        book = Book(4, [(two_first_relation(), (0, 1, 2)), (unlike_relation(), (0, 1)), (full_relation(1), (3,)),
                        (Relation(2, [(0, 1)]), (3, 3))])
        self.assertEqual(ways_of(book), ())
        left = left_of(book).take_lot((0, 2)).take_lot((1,))
        for way in DEEDS:
            self.same(strip_fault(book, Stuck([[2, 0], [1]], (3,), paper_of(left, way))), None)
