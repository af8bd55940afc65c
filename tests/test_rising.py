"""Tests of [6.11] to [6.14]."""

import random
from itertools import product

from earliestlots.books import Book, equal_book
from earliestlots.clauses import Clause, all_clauses, clause_holds, least_clauses
from earliestlots.closings import kept_by_lots
from earliestlots.errors import BadCount, NotBroken, NotLesser, OtherPlaces, TooMany
from earliestlots.named import after_one_of, before_relation, tied_relation, unlike_relation, with_or_after_one_of
from earliestlots.papers import Stripped, strip_book
from earliestlots.relations import Relation, empty_relation
from earliestlots.rising import Rise, clause_fact, clauses_of, risen_heights
from tests.helper import NO_NUMBERS, NO_SEQUENCES, Checks, datings_as_told, fits_as_told, some_books, standings_by_trying

SIZES = ((0, 1), (1, 6), (2, 20), (3, 40), (4, 30), (5, 12), (7, 8))
LESSER = [book for size, many in SIZES for book in some_books("lesser", size, many, 5)]
ANY = [book for size, many in SIZES for book in some_books("any", size, many, 4)]
EXAMPLE = [Clause(1, (0,), ()), Clause(2, (1,), (0,))]


def key(clause):
    """What clauses are ordered by."""
    return (clause.place, len(clause.after) + len(clause.within), clause.after, clause.within)


def some_clauses(picker, size, many):
    """Up to so many clauses about dates below size."""
    clauses = []
    for _ in range(picker.randint(0, many) if size else 0):
        place = picker.randrange(size)
        others = [date for date in range(size) if date != place]
        after = picker.sample(others, picker.randint(0, min(2, len(others))))
        rest = [date for date in others if date not in after]
        within = picker.sample(rest, picker.randint(0, min(2, len(rest))))
        # A clause that never holds leaves little to see, so that they are rare.
        if after or within or picker.randint(0, 5) == 0:
            clauses.append(Clause(place, after, within))
    return clauses


def broken_as_told(clause, heights):
    height = heights[clause.place]
    whole = [(date, heights[date]) for date in range(len(heights)) if heights[date] is not None]
    return (height is not None and not any(date in clause.after and other < height for date, other in whole)
            and not any(date in clause.within and other <= height for date, other in whole))


class ClausesOfTests(Checks):

    def test_the_unlike_clauses_of_all_facts(self):
        for book in LESSER:
            wanted = {}
            for relation, dates in equal_book(book).facts:
                for clause in least_clauses(relation):
                    dated = Clause(dates[clause.place], [dates[place] for place in clause.after],
                                   [dates[place] for place in clause.within])
                    wanted[key(dated)] = dated
            got = clauses_of(book)
            self.assertIs(type(got), tuple)
            self.assertEqual(list(got), [wanted[row] for row in sorted(wanted)])

    def test_a_standing_fits_exactly_if_it_fits_the_facts_of_the_clauses(self):
        for book in LESSER:
            if book.size < 6:
                facts = [clause_fact(clause) for clause in clauses_of(book)]
                self.assertEqual(datings_as_told(book), [
                    standing for standing in standings_by_trying(book.size)
                    if all(fits_as_told(standing, fact) for fact in facts)])

    def test_none_is_left_out_because_another_fact_implies_it(self):
        book = Book(2, [(with_or_after_one_of(2), (0, 1)), (after_one_of(2), (0, 1)), (after_one_of(2), (0, 1))])
        self.assertEqual(clauses_of(book), (Clause(0, (), (1,)), Clause(0, (1,), ())))

    def test_facts_are_made_equal(self):
        book = Book(5, [(tied_relation(), (4, 4)), (before_relation(), (3, 3)), (after_one_of(3), (2, 0, 0))])
        self.assertEqual(clauses_of(book), (Clause(2, (0,), ()), Clause(3, (), ())))

    def test_without_facts(self):
        for size in range(8):
            self.same(clauses_of(Book(size, ())), ())

    def test_not_lesser(self):
        unlike = (unlike_relation(), (0, 1))
        self.wrong(NotLesser, {"fact": 0}, clauses_of, Book(2, [unlike]))
        self.wrong(NotLesser, {"fact": 1}, clauses_of, Book(2, [(before_relation(), (0, 1)), unlike, unlike]))
        self.assertEqual(clauses_of(Book(2, [(unlike_relation(), (0, 0))])), (Clause(0, (), ()),))
        for book in ANY:
            wrong = [number for number, (relation, _) in enumerate(equal_book(book).facts)
                     if not kept_by_lots(relation, "lesser")]
            if wrong:
                self.wrong(NotLesser, {"fact": wrong[0]}, clauses_of, book)

    def test_nothing_is_changed(self):
        self.unchanged(clauses_of, Book(3, [(after_one_of(3), (2, 0, 1))]))
        self.unchanged(risen_heights, 3, list(EXAMPLE))


class ClauseFactTests(Checks):

    def test_all_clauses(self):
        for clause in all_clauses(4):
            relation, dates = clause_fact(clause)
            self.same(dates, tuple(sorted((clause.place,) + clause.after + clause.within)))
            self.assertEqual(relation.places, len(dates))
            for standing in standings_by_trying(4):
                self.assertEqual(fits_as_told(standing, (relation, dates)), clause_holds(clause, standing))
            self.assertIs(type(clause_fact(clause)), tuple)

    def test_greater_dates(self):
        self.same(clause_fact(Clause(5, (6, 2), ())), (Relation(3, [
            row for row in standings_by_trying(3) if row[0] < row[1] or row[2] < row[1]]), (2, 5, 6)))
        self.assertEqual(clause_fact(Clause(3, (), ())), (empty_relation(1), (3,)))
        self.assertEqual(clause_fact(Clause(6, (0,), ())), (before_relation(), (0, 6)))

    def test_too_many(self):
        self.assertEqual(clause_fact(Clause(0, (1, 2), (3,)))[1], (0, 1, 2, 3))
        for clause in (Clause(0, (1, 2), (3, 4)), Clause(6, (0, 1, 2, 3, 4, 5), ())):
            self.wrong(TooMany, {"most": 4}, clause_fact, clause)


class RiseTests(Checks):

    def test_attributes(self):
        passed = [EXAMPLE[1], EXAMPLE[0], Clause(2, [1], [0])]
        rise = Rise(3, passed)
        self.same((rise.size, rise.heights), (3, (0, 0, 0)))
        self.assertEqual(rise.clauses, tuple(EXAMPLE))
        self.assertIs(type(rise.clauses), tuple)
        passed.append(EXAMPLE[0])
        self.assertEqual(rise.clauses, tuple(EXAMPLE))
        self.same(rise.broken, (0,))
        self.assertIs(type(vars(Rise)["broken"]), property)
        self.same(Rise(size=0, clauses=()).heights, ())
        self.same(Rise(7, ()).heights, (0,) * 7)
        self.same(Rise(7, []).broken, ())
        self.same(Rise(0, ()).clauses, ())

    def test_clauses_stand_in_their_order(self):
        clauses = list(all_clauses(3))
        picker = random.Random(612)
        for _ in range(20):
            row = picker.choices(clauses, k=picker.randint(0, 40))
            wanted = {key(clause): clause for clause in row}
            self.assertEqual(list(Rise(3, row).clauses), [wanted[at] for at in sorted(wanted)])

    def test_errors(self):
        for thing in NO_NUMBERS + (8,):
            for call in (Rise, risen_heights):
                self.wrong(BadCount, {"what": "size"}, call, thing, None)
        for thing in NO_SEQUENCES + ([EXAMPLE[0]] * 401, (Clause(6, (), ()),) * 500):
            for call in (Rise, risen_heights):
                self.wrong(TooMany, {"most": 400}, call, 3, thing)
        for clause in (Clause(3, (), ()), Clause(0, (3,), ()), Clause(0, (1,), (6, 2))):
            for call in (Rise, risen_heights):
                self.wrong(OtherPlaces, {}, call, 3, [EXAMPLE[0], clause])
        self.wrong(OtherPlaces, {}, Rise, 0, (Clause(0, (), ()),))
        self.assertEqual(len(Rise(3, [EXAMPLE[0], EXAMPLE[1]] * 200).clauses), 2)

    def test_equal(self):
        rise = Rise(3, EXAMPLE)
        self.assertTrue(rise == Rise(3, EXAMPLE[::-1] + EXAMPLE))
        for other in (Rise(4, EXAMPLE), Rise(3, EXAMPLE[:1]), rise.rise_by(0), None, (3, tuple(EXAMPLE), (0, 0, 0))):
            self.assertFalse(rise == other)
        self.assertTrue(rise.rise_by(0) == Rise(3, EXAMPLE).rise_by(0))

    def test_rise_by(self):
        picker = random.Random(613)
        for _ in range(300):
            size = picker.randint(0, 5)
            rise = Rise(size, some_clauses(picker, size, 7))
            steps = 0
            while True:
                broken = tuple(index for index, clause in enumerate(rise.clauses)
                               if broken_as_told(clause, rise.heights))
                self.same(rise.broken, broken)
                for thing in NO_NUMBERS + (len(rise.clauses), 400) + tuple(range(len(rise.clauses))):
                    if type(thing) is not int or thing not in broken:
                        self.wrong(NotBroken, {"index": thing}, rise.rise_by, thing)
                if not broken:
                    break
                self.check_step(rise, picker.choice(broken))
                rise = rise.rise_by(picker.choice(broken))
                steps += 1
            self.assertLessEqual(steps, size * size)
            self.same(rise.heights, risen_heights(size, rise.clauses))

    def check_step(self, rise, index):
        """The date of this clause gets the least height by which the clause is not broken."""
        before = rise.heights
        risen = rise.rise_by(index)
        self.assertIs(type(risen), Rise)
        self.same(rise.heights, before)
        date = rise.clauses[index].place
        fitting = [height for height in range(rise.size)
                   if not broken_as_told(rise.clauses[index], before[:date] + (height,) + before[date + 1:])]
        fitting = [height for height in fitting if height > before[date]]
        self.same(risen.heights, before[:date] + (fitting[0] if fitting else None,) + before[date + 1:])
        self.same((risen.size, list(map(key, risen.clauses))), (rise.size, list(map(key, rise.clauses))))

    def test_a_number_of_size_or_more_is_none(self):
        rise = Rise(2, [Clause(0, (1,), ()), Clause(1, (0,), ())])
        self.same(rise.broken, (0, 1))
        self.same(rise.rise_by(0).heights, (1, 0))
        self.same(rise.rise_by(0).rise_by(1).heights, (1, None))
        self.same(rise.rise_by(0).rise_by(1).rise_by(0).heights, (None, None))
        self.same(Rise(1, [Clause(0, (), ())]).rise_by(0).heights, (None,))


class HeightsTests(Checks):

    def all_ends(self, rise):
        """The heights at the ends of all rows of steps."""
        ends, todo, seen = set(), [rise], set()
        while todo:
            at = todo.pop()
            if at.heights not in seen:
                seen.add(at.heights)
                if not at.broken:
                    ends.add(at.heights)
                todo.extend(at.rise_by(index) for index in at.broken)
        return ends

    def test_whichever_clause_is_raised(self):
        picker = random.Random(614)
        for _ in range(150):
            size = picker.randint(0, 4)
            clauses = some_clauses(picker, size, 6)
            self.assertEqual(self.all_ends(Rise(size, clauses)), {risen_heights(size, clauses)})

    def test_couples_of_clauses_of_three_dates(self):
        clauses = list(all_clauses(3))
        for one in clauses:
            for other in clauses:
                self.assertEqual(self.all_ends(Rise(3, (one, other))), {risen_heights(3, [other, one])})

    def test_they_are_the_least(self):
        picker = random.Random(615)
        for _ in range(120):
            size = picker.randint(0, 3)
            clauses = some_clauses(picker, size, 5)
            far = 99
            rows = [row for row in product((0, 1, 2, 3, 4, None), repeat=size)
                    if not any(broken_as_told(clause, row) for clause in clauses)]
            least = [min(far if row[date] is None else row[date] for row in rows) for date in range(size)]
            self.same(risen_heights(size, clauses), tuple(None if height == far else height for height in least))

    def test_without_a_gap(self):
        picker = random.Random(616)
        for _ in range(200):
            size = picker.randint(0, 7)
            whole = {height for height in risen_heights(size, some_clauses(picker, size, 9)) if height is not None}
            self.assertEqual(whole, set(range(len(whole))))

    def test_books_that_lesser_keeps(self):
        kinds = []
        for book in LESSER:
            heights = risen_heights(book.size, clauses_of(book))
            outcome = strip_book(book, way="lesser")
            kinds.append(type(outcome))
            if isinstance(outcome, Stripped):
                self.same(heights, outcome.dating)
            else:
                self.same(tuple(date for date in range(book.size) if heights[date] is None), outcome.dates)
                for number, lot in enumerate(outcome.lots):
                    self.same(tuple(date for date in range(book.size) if heights[date] == number), lot)
            if book.size < 6:
                datings = datings_as_told(book)
                self.assertEqual(None not in heights, datings != [])
                if datings:
                    self.assertIn(heights, datings)
                    for dating in datings:
                        self.assertTrue(all(height <= rank for height, rank in zip(heights, dating)))
        self.assertGreater(kinds.count(Stripped), 20)
        self.assertGreater(len(kinds) - kinds.count(Stripped), 20)

    def test_the_example(self):
        self.same(risen_heights(3, EXAMPLE), (0, 1, 0))
        rise = Rise(3, EXAMPLE)
        self.same(rise.broken, (0,))
        self.same(rise.rise_by(0).heights, (0, 1, 0))
        self.same(risen_heights(3, EXAMPLE + [Clause(0, (1,), ())]), (None, None, None))

    def test_edges(self):
        self.same(risen_heights(0, ()), ())
        self.same(risen_heights(7, []), (0,) * 7)
        row = [Clause(date, (date - 1,), ()) for date in range(1, 7)]
        self.same(risen_heights(7, row), (0, 1, 2, 3, 4, 5, 6))
        self.same(risen_heights(7, row + [Clause(0, (6,), ())]), (None,) * 7)
        self.same(risen_heights(2, [Clause(0, (), (1,)), Clause(1, (), (0,))]), (0, 0))
