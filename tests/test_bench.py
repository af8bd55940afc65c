"""Tests of [10.5] to [10.7]."""

import copy
import random

from earliestlots.bench import Bench
from earliestlots.books import Book, ways_of
from earliestlots.edits import edited_through
from earliestlots.errors import BadEdit, BadStanding, NoDate, NothingDone, NoWay
from earliestlots.named import after_one_of, before_relation, between_relation, tied_relation
from earliestlots.papers import Stripped, Stuck, strip_book, strip_fault
from tests.edithelper import bad_edits, edited_as_told, led_as_told, some_edit
from tests.helper import (
    NO_NUMBERS, NO_SEQUENCES, NO_STANDINGS_OF_2, Checks, datings_as_told, some_books, standings_by_trying)

BEFORE = before_relation()
PLAIN = Book(2, [(BEFORE, (0, 1))])
TIE, DATE, TURN, DROP = ("tie", 0, 1), ("date",), ("turn",), ("drop", 0)
SIZES = ((0, 2), (1, 5), (2, 15), (3, 20), (4, 8))
BOOKS = [book for way in ("any", "lesser") for size, many in SIZES for book in some_books(way, size, many, 4)]


def state_of(bench):
    """All that a bench shows, copied."""
    return copy.deepcopy((bench.start, bench.book, bench.kept_edits, bench.log, len(bench), list(bench)))


class Model:
    """What a bench must show, held without taking anything back: the edits that stand, and the log."""

    def __init__(self, start):
        self.start, self.edits, self.log = start, [], []

    def books(self):
        """The books ahead of each edit that stands, and the one behind all."""
        books = [self.start]
        for edit in self.edits:
            books.append(edited_as_told(books[-1], edit))
        return books

    def put(self, edit):
        self.edits.append(edit)
        self.log.append(("put", edit))

    def back(self, many):
        taken = [self.edits.pop() for _ in range(many)]
        self.log.extend(("back", edit) for edit in taken)
        return tuple(taken)


class BenchChecks(Checks):

    def check_bench(self, bench, model):
        """The bench shows what it must."""
        self.assertEqual(bench.start, model.start)
        self.assertEqual(bench.book, model.books()[-1])
        self.same(bench.kept_edits, tuple(model.edits))
        self.same(bench.log, tuple(model.log))
        self.same(len(bench), len(model.edits))
        self.same(list(bench), list(model.edits))

    def keeps_all(self, bench, error, attributes, call, *args):
        """The call raises the error and leaves the bench as it was."""
        before = state_of(bench)
        self.wrong(error, attributes, call, *args)
        self.assertEqual(state_of(bench), before)


class EditsOfBenchTests(BenchChecks):

    def test_a_new_bench(self):
        for book in BOOKS:
            bench = Bench(book)
            self.assertIs(bench.start, book)
            self.check_bench(bench, Model(book))

    def test_example(self):
        bench = Bench(Book(3, [(BEFORE, (0, 1))]))
        self.same(bench.put_edit(("tie", 2, 0)), 1)
        self.assertEqual(bench.book, Book(2, [(BEFORE, (0, 1))]))
        self.same(bench.lead_back((0, 1)), (0, 1, 0))

    def test_any_calls(self):
        picker = random.Random(105)
        for book in BOOKS:
            bench, model = Bench(book), Model(copy.deepcopy(book))
            for _ in range(12):
                self.do_something(picker, bench, model)
                self.check_bench(bench, model)

    def do_something(self, picker, bench, model):
        """One call of the bench, and the same to the model."""
        way = picker.randrange(5)
        if way < 2:
            edit = some_edit(picker, model.books()[-1])
            model.put(edit)
            self.same(bench.put_edit(list(edit)), len(model.edits))
        elif way == 2:
            edits, held = [], model.books()[-1]
            for _ in range(picker.randint(0, 3)):
                edits.append(some_edit(picker, held))
                held = edited_as_told(held, edits[-1])
                model.put(edits[-1])
            self.same(bench.put_all(edits), len(model.edits))
        elif way == 3 and model.edits:
            many = picker.randint(1, len(model.edits))
            self.same(bench.take_back(many), model.back(many))
        elif way == 4 and model.edits:
            taken = bench.take_back()
            self.same(taken, model.back(1))
            if picker.randint(0, 1) == 0:
                model.put(taken[0])
                self.same(bench.put_edit(taken[0]), len(model.edits))

    def test_bad_edits(self):
        bench = Bench(PLAIN)
        for edit in bad_edits():
            self.keeps_all(bench, BadEdit, {"index": 0}, bench.put_edit, edit)
            self.keeps_all(bench, BadEdit, {"index": 0}, bench.put_all, [edit, edit])
            self.keeps_all(bench, BadEdit, {"index": 2}, bench.put_all, [TURN, TURN, edit, TURN])
        for wrong in NO_SEQUENCES + (bench,):
            self.keeps_all(bench, BadEdit, {"index": -1}, bench.put_all, wrong)
        bench.put_all([TIE, TURN])
        self.keeps_all(bench, BadEdit, {"index": 0}, bench.put_edit, TIE)
        self.keeps_all(bench, BadEdit, {"index": 2}, bench.put_all, [DATE, TIE, TIE, DATE])
        self.same(bench.put_all([]), 2)
        self.same(bench.log, (("put", TIE), ("put", TURN)))

    def test_take_back(self):
        bench = Bench(PLAIN)
        self.same(bench.put_all([DATE, TURN, DROP, TURN]), 4)
        self.same(bench.take_back(), (TURN,))
        self.same(bench.take_back(many=2), (DROP, TURN))
        self.same(bench.take_back(1), (DATE,))
        self.assertEqual(bench.book, PLAIN)
        put = [("put", edit) for edit in (DATE, TURN, DROP, TURN)]
        self.same(bench.log, tuple(put + [("back", edit) for edit in (TURN, DROP, TURN, DATE)]))

    def test_nothing_done(self):
        bench = Bench(PLAIN)
        self.keeps_all(bench, NothingDone, {}, bench.take_back)
        bench.put_all([DATE, TURN])
        for many in NO_NUMBERS + (0, 3, 100):
            self.keeps_all(bench, NothingDone, {}, bench.take_back, many)
        bench.take_back(2)
        self.keeps_all(bench, NothingDone, {}, bench.take_back)
        self.keeps_all(bench, NothingDone, {}, bench.take_back, 1)

    def test_nothing_that_is_passed_is_kept_or_changed(self):
        bench, book = Bench(PLAIN), copy.deepcopy(PLAIN)
        edits = [["add", BEFORE, [1, 0]], ["date"]]
        before = copy.deepcopy(edits)
        bench.put_all(edits)
        bench.put_edit(edits[0])
        self.assertEqual(edits, before)
        edits[0][2][0] = 0
        edits[1].append(0)
        edits.clear()
        self.same(bench.kept_edits, (("add", BEFORE, (1, 0)), DATE, ("add", BEFORE, (1, 0))))
        self.assertEqual(bench.take_back(3), (("add", BEFORE, (1, 0)), DATE, ("add", BEFORE, (1, 0))))
        self.assertEqual(PLAIN, book)

    def test_a_hundred_edits(self):
        bench = Bench(PLAIN)
        for number in range(100):
            self.same(bench.put_edit(TURN), number + 1)
        self.assertEqual(bench.book, PLAIN)
        self.same(bench.lead_back((0, 1)), (0, 1))
        self.same(bench.take_back(99), (TURN,) * 99)
        self.same(bench.lead_back((0, 1)), (1, 0))
        self.same(len(bench.log), 199)

    def test_benches_do_not_share_anything(self):
        one, other = Bench(PLAIN), Bench(PLAIN)
        one.put_all([DATE, DROP])
        self.check_bench(other, Model(PLAIN))


class OutcomeTests(BenchChecks):

    def test_as_a_new_bench(self):
        picker = random.Random(106)
        counts = {}
        for book in BOOKS:
            bench = Bench(book)
            for _ in range(6):
                self.check_outcome(bench, counts)
                if picker.randint(0, 2) > 0 or len(bench) == 0:
                    bench.put_edit(some_edit(picker, bench.book, way="lesser"))
                else:
                    bench.take_back()
                with self.assertRaises(BadEdit):
                    bench.put_edit(None)
            self.check_outcome(bench, counts)
        self.assertGreater(min(counts[kind] for kind in (Stripped, Stuck, NoWay)), 20)

    def check_outcome(self, bench, counts):
        """The outcome is that of stripping the book."""
        before = state_of(bench)
        if ways_of(bench.book) == ():
            counts[NoWay] = counts.get(NoWay, 0) + 1
            self.wrong(NoWay, {}, bench.outcome)
        else:
            outcome = bench.outcome()
            counts[type(outcome)] = counts.get(type(outcome), 0) + 1
            self.assertIsNone(strip_fault(bench.book, outcome))
            self.assertEqual(outcome, strip_book(bench.book))
            self.assertEqual(outcome, Bench(bench.book).outcome())
            self.assertEqual(outcome, bench.outcome())
        self.assertEqual(state_of(bench), before)

    def test_examples(self):
        bench = Bench(PLAIN)
        self.assertEqual(bench.outcome(), Stripped(((0,), (1,)), (0, 1)))
        bench.put_edit(("add", BEFORE, (1, 0)))
        self.assertEqual(bench.outcome().dates, (0, 1))
        bench.put_all([DATE, ("add", between_relation(), (0, 1, 2))])
        self.wrong(NoWay, {}, bench.outcome)
        # Behind the tie the relation has a date twice, and made equal no member.
        bench.put_edit(("tie", 2, 1))
        self.assertEqual(bench.outcome().dates, (0, 1))
        self.assertEqual(Bench(Book(0, ())).outcome(), Stripped((), ()))


class LeadBackTests(BenchChecks):

    def test_as_told(self):
        picker = random.Random(107)
        dropped = 0
        for book in BOOKS:
            bench, model = Bench(book), Model(book)
            for _ in range(picker.randint(0, 6)):
                edit = some_edit(picker, bench.book)
                bench.put_edit(edit)
                model.put(edit)
            self.check_led(bench, model, picker)
            dropped += any(edit[0] == "drop" for edit in bench)
        self.assertGreater(dropped, 10)
        self.assertLess(dropped, len(BOOKS) - 10)

    def check_led(self, bench, model, picker):
        """Standings are led back edit by edit, and datings to datings where no fact was dropped."""
        books = model.books()
        for standing in picker.sample(standings_by_trying(min(bench.book.size, 6)), 1) * (bench.book.size < 7):
            wanted = standing
            for book, edit in list(zip(books, model.edits))[::-1]:
                wanted = led_as_told(book, edit, wanted)
            self.same(bench.lead_back(list(standing)), wanted)
        if bench.book.size < 6 and not any(edit[0] == "drop" for edit in bench):
            known = datings_as_told(bench.start)
            for dating in datings_as_told(bench.book)[:30]:
                self.assertIn(bench.lead_back(dating), known)

    def test_errors(self):
        bench = Bench(Book(3, ()))
        bench.put_edit(("tie", 2, 0))
        for wrong, index in NO_STANDINGS_OF_2:
            self.keeps_all(bench, BadStanding, {"index": index}, bench.lead_back, wrong)
        self.same(bench.lead_back([1, 0]), (1, 0, 1))
        self.same(Bench(Book(0, ())).lead_back([]), ())
        self.same(Bench(PLAIN).lead_back([1, 0]), (1, 0))
        self.unchanged(bench.lead_back, [1, 0])


class TriedTests(BenchChecks):

    def some_bench(self):
        """A bench on which something was done."""
        bench = Bench(Book(3, [(BEFORE, (0, 1)), (after_one_of(3), (2, 0, 1))]))
        bench.put_all([DATE, ("add", tied_relation(), (3, 0)), TURN])
        bench.take_back()
        return bench

    def spoil(self, bench):
        """Does this and that to the bench."""
        bench.put_all([TURN, ("tie", 3, 1)])
        bench.take_back(3)
        bench.put_edit(DROP)
        bench.outcome()

    def test_all_is_as_before(self):
        bench = self.some_bench()
        before = state_of(bench)
        self.same(bench.tried(self.spoil), None)
        self.assertEqual(state_of(bench), before)
        self.same(bench.tried(lambda passed: passed.put_edit(DROP)), 3)
        self.assertEqual(state_of(bench), before)
        self.same(bench.tried(lambda passed: passed.take_back(2))[1], DATE)
        self.assertEqual(state_of(bench), before)
        self.same(bench.take_back(), (("add", tied_relation(), (3, 0)),))
        self.same(bench.take_back(), (DATE,))
        self.assertEqual(bench.book, bench.start)

    def test_the_work_sees_what_it_did(self):
        bench = self.some_bench()

        def work(passed):
            self.assertIs(passed, bench)
            self.spoil(passed)
            return state_of(passed)

        wanted = self.some_bench()
        self.spoil(wanted)
        self.assertEqual(bench.tried(work), state_of(wanted))

    def test_what_is_returned_is_returned_as_it_is(self):
        thing = [None]
        self.assertIs(self.some_bench().tried(lambda passed: thing), thing)
        bench = self.some_bench()
        self.assertIs(bench.tried(lambda passed: passed), bench)

    def test_a_work_that_raises_an_error(self):
        bench = self.some_bench()
        before = state_of(bench)
        for error in (NoDate(5), KeyError("x"), ZeroDivisionError(), BadEdit(3), KeyboardInterrupt()):
            def work(passed, wrong=error):
                self.spoil(passed)
                raise wrong
            with self.assertRaises(type(error)) as caught:
                bench.tried(work)
            self.assertIs(caught.exception, error)
            self.assertEqual(state_of(bench), before)
        self.keeps_all(bench, BadEdit, {"index": 0}, bench.tried, lambda passed: (self.spoil(passed), passed.put_edit(0)))

    def test_trials_within_trials(self):
        bench = self.some_bench()
        before = state_of(bench)
        seen = []

        def work(passed, deep=20):
            passed.put_edit(TURN)
            inner = state_of(passed)
            if deep > 1:
                passed.tried(lambda again: work(again, deep - 1))
            self.assertEqual(state_of(passed), inner)
            seen.append(len(passed))
            return deep

        self.same(bench.tried(work), 20)
        self.assertEqual(seen, list(range(22, 2, -1)))
        self.assertEqual(state_of(bench), before)

    def test_an_inner_trial_that_raises_an_error(self):
        bench = self.some_bench()
        before = state_of(bench)

        def inner(passed):
            passed.take_back(2)
            passed.take_back()

        def outer(passed):
            passed.put_edit(DROP)
            held = state_of(passed)
            self.wrong(NothingDone, {}, passed.tried, lambda again: (inner(again), inner(again)))
            self.assertEqual(state_of(passed), held)
            return passed.put_edit(TURN)

        self.same(bench.tried(outer), 4)
        self.assertEqual(state_of(bench), before)

    def test_edits_that_are_put_in_a_trial_can_be_put_again(self):
        bench = Bench(PLAIN)
        self.assertEqual(bench.tried(lambda passed: (passed.put_edit(TIE), passed.outcome()))[1].dates, (0,))
        self.assertEqual(bench.outcome(), strip_book(PLAIN))
        self.same(bench.put_edit(TIE), 1)
        self.assertEqual(bench.book, edited_through(PLAIN, [TIE]))
