"""Tests of [8.9]."""

import random

from earliestlots.errors import BadCut, BadStanding, OtherPlaces
from earliestlots.keeps import BrokenOver
from earliestlots.named import after_one_of, before_relation, between_relation, unlike_relation
from earliestlots.relations import Relation, full_relation
from earliestlots.ruled import NotRuled, rules_for
from earliestlots.sortings import BrokenSorting, broken_sorting, sorted_over
from tests.helper import (
    NO_NUMBERS, NO_STANDINGS, NO_STANDINGS_OF_2, Checks, couples, ranked, relations_but_for_renaming, small_relations,
    some_relations, standings_by_trying, thin_relations)
from tests.rulehelper import datings_of_rules, small_rules, some_rules

RELATIONS = small_relations() + relations_but_for_renaming(3) + some_relations(4, 20) + thin_relations(4, 60, 3)


def sorted_as_told(one, cut, other):
    """The standing by the words of [8.9]: layer by layer."""
    early = [place for place in range(len(one)) if one[place] < cut]
    late = [place for place in range(len(one)) if one[place] >= cut]
    keys = sorted({(one[place], other[place]) for place in early})
    later = sorted({(other[place], one[place]) for place in late})
    ranks = {place: keys.index((one[place], other[place])) for place in early}
    ranks.update({place: len(keys) + later.index((other[place], one[place])) for place in late})
    return tuple(ranks[place] for place in range(len(one)))


def turned(standing):
    """The standing turned round."""
    return tuple(max(standing, default=0) - rank for rank in standing)


def broken_as_told(members):
    """The least (one, cut, other) for which sorting gives none of the members, or None."""
    for one in sorted(members):
        for cut in range(len(set(one)) + 1):
            for other in sorted(members):
                if sorted_as_told(one, cut, other) not in members:
                    return (one, cut, other)
    return None


class SortedOverTests(Checks):

    def test_all_cuts(self):
        for one, other in couples(3):
            for cut in range(len(set(one)) + 1):
                self.same(sorted_over(one, cut, other), sorted_as_told(one, cut, other))
                self.same(sorted_over(list(one), cut, list(other)), sorted_as_told(one, cut, other))

    def test_more_places(self):
        picker = random.Random(89)
        for places in (4, 5, 6, 7):
            for _ in range(60):
                one, other = [ranked(picker.choices(range(places), k=places)) for _ in range(2)]
                for cut in range(len(set(one)) + 1):
                    got = sorted_over(one, cut, other)
                    self.same(got, sorted_as_told(one, cut, other))
                    self.assertEqual(got, ranked(got))

    def test_least_and_greatest_cut(self):
        self.same(sorted_over((0, 0, 1), 0, (1, 0, 0)), (2, 0, 1))
        self.same(sorted_over((0, 0, 1), 2, (1, 0, 0)), (1, 0, 2))
        self.same(sorted_over((0, 1, 1, 2), 1, (3, 0, 2, 1)), (0, 1, 3, 2))
        self.same(sorted_over((), 0, ()), ())
        for one, other in couples(3):
            self.assertEqual(sorted_over(one, 0, other), ranked(list(zip(other, one))))
            self.assertEqual(sorted_over(one, len(set(one)), other), ranked(list(zip(one, other))))

    def test_errors(self):
        for wrong, index in NO_STANDINGS:
            self.wrong(BadStanding, {"index": index}, sorted_over, wrong, None, None)
            self.wrong(BadStanding, {"index": index}, sorted_over, (0, 1), 2, wrong)
        for cut in NO_NUMBERS + (3,):
            self.wrong(BadCut, {}, sorted_over, (0, 1), cut, None)
        self.wrong(BadCut, {}, sorted_over, (), 1, (0,))
        for wrong, index in NO_STANDINGS_OF_2:
            if index != -1:
                self.wrong(BadStanding, {"index": index}, sorted_over, wrong, None, None)
        self.wrong(OtherPlaces, {}, sorted_over, (0, 1), 0, (0, 1, 2))
        self.wrong(OtherPlaces, {}, sorted_over, (0, 1), 2, ())

    def test_nothing_is_changed(self):
        self.unchanged(sorted_over, [0, 0, 1], 1, [1, 0, 0])
        self.unchanged(lambda passed: broken_sorting(passed).cut, between_relation())


class BrokenSortingTests(Checks):

    def test_the_least(self):
        found = 0
        for relation in RELATIONS:
            wanted = broken_as_told(relation.members)
            got = broken_sorting(relation)
            if wanted is None:
                self.same(got, None)
                continue
            found += 1
            self.assertIs(type(got), BrokenSorting)
            self.same((got.one, got.cut, got.other), wanted)
        self.assertGreater(found, 1000)
        self.assertGreater(len(RELATIONS) - found, 30)

    def test_examples(self):
        for relation in (Relation(0, ()), Relation(0, [()]), Relation(3, ()), full_relation(4), full_relation(1),
                         before_relation(), after_one_of(3), unlike_relation()):
            self.same(broken_sorting(relation), None)
        self.assertEqual(broken_sorting(between_relation()), BrokenSorting((0, 1, 2), 1, (2, 1, 0)))
        self.assertEqual(broken_sorting(Relation(2, [(0, 0), (0, 1)])), None)
        self.assertEqual(broken_sorting(Relation(3, [(0, 0, 1), (0, 1, 0)])), BrokenSorting((0, 0, 1), 0, (0, 1, 0)))

    def test_of_rules(self):
        for rules in small_rules()[::6] + some_rules(3, 40, 4):
            datings = datings_of_rules(rules)
            for one in datings:
                for other in datings[::2]:
                    for cut in range(len(set(one)) + 1):
                        self.assertIn(sorted_over(one, cut, other), datings)
                        self.assertIn(turned(sorted_over(turned(one), cut, turned(other))), datings)

    def test_ruled_exactly_if_sorted_both_ways(self):
        ruled = one_way = 0
        for relation in RELATIONS:
            there = broken_sorting(relation) is None
            back = broken_sorting(Relation(relation.places, [turned(row) for row in relation])) is None
            self.assertEqual(not isinstance(rules_for(relation), NotRuled), there and back)
            ruled += there and back
            one_way += there != back
        self.assertGreater(min(ruled, one_way), 10)

    def test_results_keep_what_they_are_given(self):
        one, cut, other = [0], {}, [1]
        broken = BrokenSorting(one, cut, other)
        self.assertIs(broken.one, one)
        self.assertIs(broken.cut, cut)
        self.assertIs(broken.other, other)
        self.assertEqual(BrokenSorting((0,), 1, (0,)), BrokenSorting((0,), 1, (0,)))
        for others in (((1,), 1, (0,)), ((0,), 0, (0,)), ((0,), 1, (1,))):
            self.assertNotEqual(BrokenSorting((0,), 1, (0,)), BrokenSorting(*others))
        self.assertNotEqual(BrokenSorting((0,), 1, (0,)), BrokenOver((0,), 1, (0,)))
        self.assertNotEqual(BrokenOver((0,), 1, (0,)), BrokenSorting((0,), 1, (0,)))


class StandingsTests(Checks):

    def test_all_relations_are_there(self):
        self.assertEqual(len(standings_by_trying(3)), 13)
        self.assertGreater(len(RELATIONS), 1400)
