"""Tests of [7.7] to [7.9] and of [7.11]."""

import random
from itertools import permutations, product

from earliestlots.books import Book
from earliestlots.earliest import earliest_dates, not_lesser
from earliestlots.errors import BadDates, BadWorks, TooMany
from earliestlots.named import after_all_of, after_one_of
from earliestlots.papers import Stuck
from earliestlots.works import Works, greatest_knot, is_knot, rounds_of, works_book
from tests.helper import NO_NUMBERS, NO_SEQUENCES, Checks, datings_as_told, subsets

EXAMPLE = Works([("none",), ("all", (0,)), ("one", (1, 0))])


def all_waits(many):
    """All waits of one of so many works."""
    rows = subsets(range(many))[1:]
    return [("none",)] + [(word, row) for word in ("one", "all") for row in rows]


def all_works(many):
    """All works of so many."""
    return [Works(waits) for waits in product(all_waits(many), repeat=many)]


def some_works(many, count, most=7):
    """Some works of so many that wait for at most so many, the same ones at each run."""
    picker = random.Random(many)
    waits = [wait for wait in all_waits(many) if len(wait) == 1 or len(wait[1]) <= most]
    return [Works(picker.choices(waits, k=many)) for _ in range(count)]


SMALL = [works for many in range(4) for works in all_works(many)]
SOME = [works for many in (4, 5, 6, 7) for works in some_works(many, 40)]
# Mostly short waits, so that more of them begin.
EASY = [works for many in (4, 5, 6, 7) for works in some_works(many, 60, 2)]


def rounds_as_told(works):
    """For each work its round by the words of [7.7], asked again until nothing changes; None for never."""
    rounds = [None] * len(works)
    for _ in range(len(works) + 1):
        for work, wait in enumerate(works.waits):
            held = [rounds[other] for other in wait[1]] if len(wait) == 2 else []
            whole = [number for number in held if number is not None]
            if wait[0] == "none":
                rounds[work] = 0
            elif wait[0] == "one" and whole:
                rounds[work] = min(whole) + 1
            elif wait[0] == "all" and len(whole) == len(held):
                rounds[work] = max(whole) + 1
    return tuple(rounds)


def is_knot_as_told(works, numbers):
    """Whether the works numbered so are a knot, by the words of [7.8]."""
    for number in numbers:
        wait = works.waits[number]
        if wait[0] == "none":
            return False
        if wait[0] == "one" and set(wait[1]) - set(numbers):
            return False
        if wait[0] == "all" and not set(wait[1]) & set(numbers):
            return False
    return True


class WorksTests(Checks):

    def test_attribute(self):
        self.same(EXAMPLE.waits, (("none",), ("all", (0,)), ("one", (0, 1))))
        self.same(Works([["none"], ["one", [1, 0, 2]], ("all", [2])]).waits,
                  (("none",), ("one", (0, 1, 2)), ("all", (2,))))
        self.same(Works(()).waits, ())
        self.same(Works([("all", [6, 0, 3, 2, 5, 1, 4])] * 7).waits, (("all", (0, 1, 2, 3, 4, 5, 6)),) * 7)

    def test_length_and_equality(self):
        for many in range(8):
            self.same(len(Works([("none",)] * many)), many)
        self.assertEqual(Works([("one", (1, 0)), ["none"]]), Works((["one", [0, 1]], ("none",))))
        self.assertNotEqual(Works([("one", (0,))]), Works([("all", (0,))]))
        self.assertNotEqual(Works([("none",)]), Works([("none",)] * 2))
        self.assertNotEqual(Works([("none",)]), (("none",),))

    def test_no_waits(self):
        for wrong in NO_SEQUENCES + ([("none",)] * 8, [None] * 8, EXAMPLE):
            self.wrong(BadWorks, {"index": -1}, Works, wrong)

    def test_no_wait(self):
        wrong = NO_SEQUENCES + (
            (), [], ("none", ()), ("none", (0,)), ("None",), ("one",), ("all",), ("one", (0,), (0,)), ("one", ()),
            ("all", []), ("all", 0), ("all", "0"), ("one", {0}), ("one", (0, 0)), ("all", [1, 0, 1]), ("both", (0,)),
            (["none"],), (None, (0,)), ("one", None), ("one", (2,)), ("one", (-1,)), ("all", (0, 2)), (("none",),))
        for wait in wrong:
            self.wrong(BadWorks, {"index": 0}, Works, [wait, wait])
            self.wrong(BadWorks, {"index": 1}, Works, [("one", (1, 0)), wait])
        for number in NO_NUMBERS + (2, 7):
            for word in ("one", "all"):
                self.wrong(BadWorks, {"index": 1}, Works, [("none",), (word, (number,))])
                self.wrong(BadWorks, {"index": 1}, Works, [("none",), (word, [1, number])])

    def test_nothing_is_kept(self):
        waits = [["none"], ["one", [1, 0]]]
        works = Works(waits)
        waits[1][1].append(7)
        waits[0][0] = "all"
        waits.append(("none",))
        self.same(works.waits, (("none",), ("one", (0, 1))))

    def test_nothing_is_changed(self):
        waits = [["none"], ["one", [1, 0]]]
        self.unchanged(Works, waits)
        for call in (rounds_of, greatest_knot, works_book):
            self.unchanged(call, EXAMPLE)
        self.unchanged(is_knot, EXAMPLE, [1, 0, 1])


class RoundsTests(Checks):

    def test_as_told(self):
        begun = 0
        for works in SMALL + SOME + EASY:
            self.same(rounds_of(works), rounds_as_told(works))
            begun += None not in rounds_of(works)
        self.assertGreater(begun, 200)

    def test_examples(self):
        self.same(rounds_of(EXAMPLE), (0, 1, 1))
        self.same(rounds_of(Works(())), ())
        self.same(rounds_of(Works([("one", (0,))])), (None,))
        self.same(rounds_of(Works([("all", (0, 1)), ("none",)])), (None, 0))
        self.same(rounds_of(Works([("one", (0, 1)), ("none",)])), (1, 0))
        chain = [("none",)] + [("all", list(range(work))) for work in range(1, 7)]
        self.same(rounds_of(Works(chain)), (0, 1, 2, 3, 4, 5, 6))
        back = [("one", (work + 1,)) for work in range(6)] + [("none",)]
        self.same(rounds_of(Works(back)), (6, 5, 4, 3, 2, 1, 0))


class KnotTests(Checks):

    def test_as_told(self):
        for works in SMALL[::2] + SOME[::4]:
            rows = subsets(range(len(works)))
            knots = [row for row in rows if is_knot_as_told(works, row)]
            for row in rows:
                self.same(is_knot(works, row), row in knots)
            union = tuple(sorted({work for row in knots for work in row}))
            self.same(greatest_knot(works), union)
            self.assertIn(union, knots)
            self.assertEqual(union, tuple(work for work, number in enumerate(rounds_as_told(works)) if number is None))

    def test_any_order_and_doubles(self):
        works = Works([("one", (1, 2)), ("all", (0, 3)), ("all", (1, 3)), ("none",)])
        self.same(greatest_knot(works), (0, 1, 2))
        for row in permutations((0, 1, 2)):
            self.same(is_knot(works, list(row)), True)
        self.same(is_knot(works, (2, 0, 1, 0, 2, 1, 1)), True)
        self.same(is_knot(works, (0, 1, 0)), False)
        self.same(is_knot(works, (0, 1, 2, 3)), False)
        self.same(is_knot(works, ()), True)
        self.same(is_knot(works, []), True)
        self.same(is_knot(Works(()), ()), True)
        self.same(greatest_knot(Works(())), ())

    def test_errors(self):
        for wrong in NO_SEQUENCES + ((0,) * 8,):
            self.wrong(BadDates, {"index": -1}, is_knot, EXAMPLE, wrong)
        for wrong in NO_NUMBERS + (3, 7):
            self.wrong(BadDates, {"index": 0}, is_knot, EXAMPLE, (wrong, wrong))
            self.wrong(BadDates, {"index": 2}, is_knot, EXAMPLE, [1, 1, wrong])
        self.wrong(BadDates, {"index": 0}, is_knot, Works(()), (0,))


def waiting_facts_as_told(works):
    """The facts of [7.9]."""
    facts = []
    for work, wait in enumerate(works.waits):
        if wait[0] == "one":
            facts.append((after_one_of(len(wait[1]) + 1), [work, *wait[1]]))
        elif wait[0] == "all" and work in wait[1]:
            facts.append((after_all_of(2), [work, work]))
        elif wait[0] == "all":
            facts.append((after_all_of(len(wait[1]) + 1), [work, *wait[1]]))
    return facts


class WorksBookTests(Checks):

    def check_book(self, works):
        """The book has the facts of the works, is lesser, and comes to the rounds or is stuck at the greatest knot."""
        book = works_book(works)
        self.assertEqual(book, Book(len(works), waiting_facts_as_told(works)))
        self.assertIsNone(not_lesser(book))
        rounds = rounds_of(works)
        outcome = earliest_dates(book)
        if None not in rounds:
            self.same(outcome, rounds)
            return
        self.assertIs(type(outcome), Stuck)
        self.same(outcome.dates, greatest_knot(works))
        lots = [tuple(work for work, number in enumerate(rounds) if number == at) for at in range(len(works))]
        self.same(outcome.lots, tuple(lot for lot in lots if lot))

    def test_small_works(self):
        for works in SMALL[::3]:
            self.check_book(works)

    def test_some_larger_works(self):
        many = 0
        for works in SOME + EASY:
            if all(len(wait) == 1 or len(wait[1]) <= 3 for wait in works.waits):
                self.check_book(works)
                many += 1
        self.assertGreater(many, 240)

    def test_example(self):
        self.assertEqual(works_book(EXAMPLE), Book(3, [(after_all_of(2), (1, 0)), (after_one_of(3), (2, 0, 1))]))
        self.same(earliest_dates(works_book(EXAMPLE)), (0, 1, 1))
        self.same(datings_as_told(works_book(EXAMPLE)), [(0, 1, 1), (0, 1, 2), (0, 2, 1)])

    def test_a_work_that_waits_for_itself(self):
        book = works_book(Works([("all", (1, 0, 2)), ("one", (1, 2)), ("none",)]))
        self.assertEqual(book, Book(3, [(after_all_of(2), (0, 0)), (after_one_of(3), (1, 1, 2))]))
        # Work 1 can begin behind work 2; a fact over all of work 0's works would have kept nothing behind them.
        self.same(earliest_dates(book).lots, ((2,), (1,)))
        self.same(earliest_dates(book).dates, (0,))
        self.assertEqual(works_book(Works([("one", (0,))])), Book(1, [(after_one_of(2), (0, 0))]))

    def test_without_works_or_waits(self):
        self.assertEqual(works_book(Works(())), Book(0, ()))
        self.assertEqual(works_book(Works([("none",)] * 7)), Book(7, ()))

    def test_too_many(self):
        none = [("none",)] * 4
        for word in ("one", "all"):
            self.wrong(TooMany, {"most": 3}, works_book, Works(none + [(word, (0, 1, 2, 3))]))
            self.wrong(TooMany, {"most": 3}, works_book, Works(none + [(word, (0, 1, 2, 4))]))
            self.wrong(TooMany, {"most": 3}, works_book, Works([(word, list(range(7)))] * 7))
            self.assertEqual(len(works_book(Works(none + [(word, (4, 1, 2))]))), 1)
