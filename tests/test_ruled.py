"""Tests of [8.8], [8.10] and of what [8.11] says of them."""

import functools
import random

from earliestlots.books import Book
from earliestlots.errors import NotAFact, NotRuledFact, TooMany
from earliestlots.joining import made_equal
from earliestlots.named import (
    after_all_of, after_one_of, before_relation, between_relation, not_after_relation, tied_relation,
    two_first_relation, unlike_relation)
from earliestlots.relations import Relation, empty_relation, full_relation
from earliestlots.ruleclosing import Never, close_rules
from earliestlots.ruled import NotRuled, book_rules, rules_book, rules_for
from earliestlots.rules import Rule, Rules
from tests.helper import (
    Checks, datings_as_told, relations_but_for_renaming, small_relations, some_relations, standings_by_trying,
    thin_relations)
from tests.rulehelper import datings_of_rules, keeps_as_told, plain_rules, some_rule, some_rules

NEVER = ("never",)
RELATIONS = small_relations() + relations_but_for_renaming(3) + some_relations(4, 15) + thin_relations(4, 40, 3)


@functools.cache
def standings_kept(places):
    """For each plain rule the set of the standings that keep it."""
    standings = standings_by_trying(places)
    return [frozenset(row for row in standings if keeps_as_told(rule, row)) for rule in plain_rules(places)]


def kept_with(relation):
    """The standings that keep every rule that all members keep."""
    members = set(relation.members)
    return frozenset(standings_by_trying(relation.places)).intersection(
        *[kept for kept in standings_kept(relation.places) if members <= kept])


class RulesForTests(Checks):

    def check_rules(self, relation, rules):
        """They are rules over the places, few enough, and just the members keep them."""
        self.assertIs(type(rules), tuple)
        lacking = [row for row in standings_by_trying(relation.places) if row not in relation.members]
        self.assertLessEqual(len(rules), len(lacking))
        self.assertEqual(tuple(datings_of_rules(Rules(relation.places, rules))), relation.members)

    def test_against_all_rules(self):
        ruled = 0
        for relation in RELATIONS:
            outside = sorted(kept_with(relation) - set(relation.members))
            got = rules_for(relation)
            if outside:
                self.assertIs(type(got), NotRuled)
                self.same(got.standing, outside[0])
            else:
                ruled += 1
                self.check_rules(relation, got)
        self.assertGreater(ruled, 50)
        self.assertGreater(len(RELATIONS) - ruled, 500)

    def test_examples(self):
        for places in range(5):
            self.same(rules_for(full_relation(places)), ())
            self.check_rules(empty_relation(places), rules_for(empty_relation(places)))
        self.assertEqual(rules_for(Relation(0, ())), (Rule((), NEVER),))
        self.assertEqual(rules_for(between_relation()), NotRuled((0, 2, 1)))
        self.assertEqual(rules_for(after_one_of(3)), NotRuled((0, 1, 2)))
        for relation in (before_relation(), not_after_relation(), tied_relation(), unlike_relation(), after_all_of(4),
                         Relation(4, [(0, 0, 0, 0)]), Relation(4, [(0, 1, 2, 3)])):
            self.check_rules(relation, rules_for(relation))
        # If the first two places are tied, the third is not after them.
        relation = Relation(3, [row for row in standings_by_trying(3) if row[0] != row[1] or row[2] <= row[0]])
        self.check_rules(relation, rules_for(relation))

    def test_nothing_is_changed(self):
        self.unchanged(lambda relation: [rule.premises for rule in rules_for(relation)], unlike_relation())
        self.unchanged(lambda relation: rules_for(relation).standing, two_first_relation())

    def test_the_result_keeps_what_it_is_given(self):
        standing = [5]
        self.assertIs(NotRuled(standing).standing, standing)
        self.assertEqual(NotRuled((0,)), NotRuled((0,)))
        self.assertNotEqual(NotRuled((0,)), NotRuled((1,)))
        self.assertNotEqual(NotRuled((0,)), (0,))


class RulesBookTests(Checks):

    def test_each_fact(self):
        for rules in some_rules(3, 60, 5) + some_rules(4, 40, 5) + some_rules(2, 20, 5) + some_rules(7, 20, 12):
            dates = [self.dates_of(rule) for rule in rules]
            wrong = [number for number, row in enumerate(dates) if not 1 <= len(row) <= 4]
            if wrong:
                self.wrong(NotAFact, {"number": wrong[0]}, rules_book, rules)
                continue
            book = rules_book(rules)
            self.same(book.size, rules.size)
            self.assertEqual([held for _, held in book.facts], dates)
            for rule, (relation, held) in zip(rules, book.facts):
                self.assertEqual(relation.places, len(held))
                for row in standings_by_trying(len(held)):
                    dating = {date: rank for date, rank in zip(held, row)}
                    self.assertEqual(row in relation.members, keeps_as_told(rule, dating))
            if rules.size < 5:
                self.assertEqual(datings_as_told(book), datings_of_rules(rules))

    def dates_of(self, rule):
        """The unlike dates of the rule, ascending."""
        return tuple(sorted({date for premise in rule.premises for date in premise} | set(rule.end[1:])))

    def test_example(self):
        rules = Rules(3, [Rule((), ("not after", 2, 0)), Rule([(1, 1)], NEVER), Rule([(2, 0)], ("not after", 1, 0))])
        book = rules_book(rules)
        self.assertEqual(book, Book(3, [
            (Relation(2, [(0, 0), (1, 0)]), (0, 2)), (Relation(1, ()), (1,)),
            (Relation(3, [row for row in standings_by_trying(3) if row[0] != row[2] or row[1] <= row[0]]), (0, 1, 2))]))
        self.assertEqual(rules_book(Rules(5, ())), Book(5, ()))
        self.assertEqual(rules_book(Rules(7, [Rule((), ("not after", 6, 6))] * 12)),
                         Book(7, [(Relation(1, [(0,)]), (6,))] * 12))

    def test_errors(self):
        plain, empty = Rule((), ("not after", 0, 1)), Rule((), NEVER)
        wide = Rule([(0, 1), (2, 3)], ("not after", 4, 0))
        self.wrong(TooMany, {"most": 12}, rules_book, Rules(7, [plain] * 13))
        self.wrong(TooMany, {"most": 12}, rules_book, Rules(7, [empty] * 80))
        self.assertEqual(len(rules_book(Rules(7, [plain] * 12))), 12)
        self.wrong(NotAFact, {"number": 0}, rules_book, Rules(0, [empty]))
        self.wrong(NotAFact, {"number": 1}, rules_book, Rules(7, [plain, empty, wide]))
        self.wrong(NotAFact, {"number": 2}, rules_book, Rules(7, [plain, plain, wide, empty]))
        four = Rule([(0, 1), (2, 3), (2, 3)], ("not after", 3, 1))
        self.assertEqual(rules_book(Rules(4, [four])).facts[0][1], (0, 1, 2, 3))

    def test_nothing_is_changed(self):
        self.unchanged(rules_book, Rules(3, [Rule([(0, 2)], ("not after", 1, 0))]))


class BookRulesTests(Checks):

    def some_ruled_books(self):
        """Some books with ruled facts, now and then with a date twice."""
        picker = random.Random(810)
        known = [relation for relation in RELATIONS if relation.places > 0 and isinstance(rules_for(relation), tuple)]
        books = []
        for size in (1, 2, 3, 4, 5):
            for _ in range(25):
                facts = [picker.choice(known) for _ in range(picker.randint(0, 3))]
                book = Book(size, [(row, picker.choices(range(size), k=row.places)) for row in facts])
                if self.lacking(book) <= 80:
                    books.append(book)
        return books

    def lacking(self, book):
        """How many standings the relations of all facts, made equal, lack, counted fact by fact."""
        held = [made_equal(relation, dates)[0] for relation, dates in book.facts]
        return sum(len(standings_by_trying(row.places)) - len(row) for row in held)

    def test_just_the_datings_of_the_book(self):
        nevers = 0
        for book in self.some_ruled_books():
            rules = book_rules(book)
            self.assertIs(type(rules), Rules)
            self.same(rules.size, book.size)
            datings = datings_as_told(book)
            self.assertEqual(datings_of_rules(rules), datings)
            never = isinstance(close_rules(rules), Never)
            self.assertEqual(never, not datings)
            nevers += never
        self.assertGreater(nevers, 10)

    def test_there_and_back(self):
        picker = random.Random(811)
        for _ in range(40):
            rows = [some_rule(picker, 4) for _ in range(picker.randint(0, 4))]
            rules = Rules(4, [row for row in rows if row.premises or row.end != NEVER])
            again = book_rules(rules_book(rules))
            self.assertEqual(datings_of_rules(again), datings_of_rules(rules))

    def test_facts_are_made_equal(self):
        # Over unlike dates the first relation is not ruled; made equal it has no members.
        book = Book(2, [(between_relation(), (0, 1, 0)), (not_after_relation(), (1, 1))])
        self.assertEqual(datings_of_rules(book_rules(book)), [])
        lone = Relation(3, [(0, 0, 0), (0, 1, 0), (0, 1, 2), (2, 1, 0)])
        book = Book(4, [(lone, (3, 1, 3))])
        self.assertEqual(datings_of_rules(book_rules(book)), datings_as_told(book))

    def test_errors(self):
        wrong = (between_relation(), (0, 1, 2))
        for facts, number in (([wrong], 0), ([(before_relation(), (0, 1)), wrong, wrong], 1),
                              ([(empty_relation(4), (0, 1, 2, 3))] * 11 + [wrong], 11),
                              ([(two_first_relation(), (0, 1, 2))], 0), ([(between_relation(), (0, 1, 1)), wrong], 1)):
            self.wrong(NotRuledFact, {"fact": number}, book_rules, Book(4, facts))

    def test_too_many(self):
        empty = (empty_relation(4), (0, 1, 2, 3))
        none, two = (Relation(2, ()), (0, 1)), (before_relation(), (2, 3))
        full = Book(4, [empty, none, two])
        self.assertEqual(self.lacking(full), 80)
        self.assertEqual(datings_of_rules(book_rules(full)), [])
        self.assertEqual(datings_of_rules(book_rules(Book(4, [two, none, empty]))), [])
        for facts in ([empty, none, two, (not_after_relation(), (2, 3))], [empty, none, none], [empty, empty]):
            self.assertGreater(self.lacking(Book(4, facts)), 80)
            self.wrong(TooMany, {"most": 80}, book_rules, Book(4, facts))
        # Made equal they lack less.
        self.assertEqual(datings_of_rules(book_rules(Book(2, [(empty_relation(4), (0, 1, 1, 0))] * 12))), [])
        # That a fact is not ruled comes first.
        self.wrong(NotRuledFact, {"fact": 2}, book_rules, Book(4, [empty, empty, (between_relation(), (0, 1, 2))]))

    def test_edges(self):
        for size in (0, 7):
            self.assertEqual(book_rules(Book(size, ())), Rules(size, ()))
        self.assertEqual(book_rules(Book(2, [(full_relation(2), (0, 1))])), Rules(2, ()))
        self.assertEqual(book_rules(Book(7, [(full_relation(4), (6, 0, 3, 6))] * 12)), Rules(7, ()))

    def test_nothing_is_changed(self):
        self.unchanged(lambda book: [rule.end for rule in book_rules(book)], Book(2, [(before_relation(), (1, 0))]))
