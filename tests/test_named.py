"""Tests of [2.6]."""

from earliestlots import named
from earliestlots.errors import BadCount
from earliestlots.keeps import broken_over, is_kept
from earliestlots.named import (
    after_all_of, after_one_of, before_relation, between_relation, not_after_relation, tied_relation,
    two_first_relation, unlike_relation, with_or_after_one_of)
from earliestlots.relations import Relation, empty_relation, full_relation, one_standing
from tests.helper import DEEDS, NO_NUMBERS, Checks, standings_by_trying


def deeds_that_keep(relation):
    return [deed for deed in DEEDS if is_kept(relation, deed)]


class NamedTests(Checks):

    def test_relations_of_two_places(self):
        self.same(before_relation().members, ((0, 1),))
        self.same(not_after_relation().members, ((0, 0), (0, 1)))
        self.same(tied_relation().members, ((0, 0),))
        self.same(unlike_relation().members, ((0, 1), (1, 0)))
        for relation in (before_relation(), not_after_relation(), tied_relation(), unlike_relation()):
            self.assertIsInstance(relation, Relation)
            self.same(relation.places, 2)

    def test_relations_of_three_places(self):
        self.same(between_relation().members, ((0, 1, 2), (2, 1, 0)))
        self.same(two_first_relation().members, ((0, 0, 1), (0, 1, 0), (1, 0, 0)))
        self.same(between_relation().places, 3)
        self.same(two_first_relation().places, 3)

    def test_the_first_place_and_the_others(self):
        for places in (2, 3, 4):
            standings = standings_by_trying(places)
            for relation, asked in (
                    (after_one_of(places), lambda first, rank: any(first > other for other in rank)),
                    (after_all_of(places), lambda first, rank: all(first > other for other in rank)),
                    (with_or_after_one_of(places), lambda first, rank: any(first >= other for other in rank))):
                wanted = [ranks for ranks in standings if asked(ranks[0], ranks[1:])]
                self.assertEqual(relation, Relation(places, wanted))

    def test_the_three_of_two_places(self):
        self.same(after_one_of(2).members, ((1, 0),))
        self.same(after_all_of(2).members, ((1, 0),))
        self.same(with_or_after_one_of(2).members, ((0, 0), (1, 0)))

    def test_wrong_counts(self):
        for thing in NO_NUMBERS + (0, 1, 5, 6):
            for call in (after_one_of, after_all_of, with_or_after_one_of):
                self.wrong(BadCount, {"what": "places"}, call, thing)

    def test_what_all_three_deeds_keep(self):
        relations = [before_relation(), tied_relation()]
        relations += [call(places) for call in (after_one_of, after_all_of) for places in (2, 3)]
        relations += [one_standing(ranks) for places in range(5) for ranks in standings_by_trying(places)]
        relations += [call(places) for call in (full_relation, empty_relation) for places in range(4)]
        for relation in relations + [after_all_of(4), empty_relation(4)]:
            self.assertEqual(deeds_that_keep(relation), list(DEEDS))
            self.assertIsNone(broken_over(relation))

    def test_after_one_of_four_places_is_kept(self):
        self.assertEqual(deeds_that_keep(after_one_of(4)), list(DEEDS))

    def test_what_some_deeds_keep(self):
        self.assertEqual(deeds_that_keep(not_after_relation()), ["lesser", "common"])
        self.assertEqual(deeds_that_keep(unlike_relation()), ["common"])
        self.assertEqual(deeds_that_keep(with_or_after_one_of(2)), ["lesser", "common"])
        self.assertEqual(deeds_that_keep(with_or_after_one_of(3)), ["lesser"])
        self.assertEqual(deeds_that_keep(with_or_after_one_of(4)), ["lesser"])
        self.assertEqual(deeds_that_keep(two_first_relation()), ["odd"])

    def test_between_is_kept_by_none(self):
        self.assertEqual(deeds_that_keep(between_relation()), [])
        self.assertIsNotNone(broken_over(between_relation()))

    def test_each_is_defined_in_its_file(self):
        for name in ("before_relation", "not_after_relation", "tied_relation", "unlike_relation", "between_relation",
                     "two_first_relation", "after_one_of", "after_all_of", "with_or_after_one_of"):
            self.assertEqual(getattr(named, name).__module__, "earliestlots.named")
