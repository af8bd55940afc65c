"""Tests of [2.1] to [2.3]."""

from earliestlots.errors import BadCount, BadRelation, BadStanding, OtherPlaces, TooMany
from earliestlots.relations import (
    Relation, empty_relation, full_relation, join_of, left_out, meet_of, one_standing, turned_relation)
from tests.helper import NO_NUMBERS, NO_SEQUENCES, Checks, small_relations, some_relations, standings_by_trying


class RelationTests(Checks):

    def test_members_are_sorted_unlike_tuples(self):
        relation = Relation(2, [[1, 0], (0, 1), [1, 0], (0, 0), [0, 1]])
        self.same(relation.places, 2)
        self.same(relation.members, ((0, 0), (0, 1), (1, 0)))
        self.same(len(relation), 3)
        self.same(list(relation), [(0, 0), (0, 1), (1, 0)])
        self.same(Relation(3, ((2, 1, 0), (0, 0, 0))).members, ((0, 0, 0), (2, 1, 0)))

    def test_relations_of_no_places(self):
        self.same(Relation(0, []).members, ())
        self.same(Relation(0, [(), []]).members, ((),))
        self.assertEqual(len(Relation(0, ())), 0)
        self.assertEqual(len(Relation(0, [()])), 1)
        self.assertNotEqual(Relation(0, []), Relation(0, [()]))

    def test_four_places(self):
        standings = standings_by_trying(4)
        self.same(Relation(4, standings[::-1]).members, tuple(standings))
        self.assertEqual(len(Relation(4, standings)), 75)

    def test_wrong_places_come_first(self):
        for thing in NO_NUMBERS + (5, 6, 10 ** 9):
            self.wrong(BadRelation, {"what": "places"}, Relation, thing, [])
            self.wrong(BadRelation, {"what": "places"}, Relation, thing, None)

    def test_wrong_standings(self):
        for thing in NO_SEQUENCES + (Relation(2, []), Relation(2, [(0, 1)])):
            self.wrong(BadRelation, {"what": "standings"}, Relation, 2, thing)
        for thing in NO_SEQUENCES + ((), (0,), (0, 1, 2), (0, 2), (1, 1), (0, True), (False, 1), (0, 1.0), "01"):
            self.wrong(BadRelation, {"what": "standings"}, Relation, 2, [(0, 1), thing])
        self.wrong(BadRelation, {"what": "standings"}, Relation, 0, [(0,)])
        self.wrong(BadRelation, {"what": "standings"}, Relation, 1, [()])

    def test_what_was_passed_is_copied(self):
        standings = [[0, 1], [1, 0]]
        relation = Relation(2, standings)
        self.assertEqual(standings, [[0, 1], [1, 0]])
        standings[0][0] = 1
        standings.pop()
        self.same(relation.members, ((0, 1), (1, 0)))

    def test_equal_exactly_if_both_attributes_are(self):
        self.assertEqual(Relation(2, [(0, 1), (1, 0)]), Relation(2, ([1, 0], [0, 1])))
        self.assertNotEqual(Relation(2, [(0, 1)]), Relation(2, [(1, 0)]))
        for one in range(5):
            for other in range(5):
                self.assertIs(Relation(one, []) == Relation(other, []), one == other)

    def test_not_equal_to_a_thing_of_another_kind(self):
        relation = Relation(2, [(0, 1)])
        for thing in (None, 2, [(0, 1)], ((0, 1),), (2, ((0, 1),)), "Relation"):
            self.assertIs(relation == thing, False)
            self.assertIs(relation != thing, True)

    def test_holds(self):
        for places in range(5):
            standings = standings_by_trying(places)
            relation = Relation(places, standings[::2])
            for number, standing in enumerate(standings):
                self.assertIs(relation.holds(standing), number & 1 == 0)
                self.assertIs(relation.holds(list(standing)), number & 1 == 0)

    def test_holds_is_false_for_anything_else(self):
        relation = full_relation(2)
        for thing in NO_SEQUENCES + (
                (), (0,), (0, 1, 2), (0, 2), (1, 1), (0, "1"), (0, 1.0), (0.0, 1), [[0], 1], [{}, 1], (None, 0),
                (-1, 0)):
            self.assertIs(relation.holds(thing), False)
        self.assertIs(Relation(0, [()]).holds(""), False)
        self.assertIs(Relation(0, [()]).holds([]), True)
        self.assertIs(Relation(0, []).holds(()), False)
        self.assertIs(relation.holds(relation), False)

    def test_holds_is_defined_in_the_class(self):
        for name in ("__init__", "__len__", "__iter__", "__eq__", "holds"):
            self.assertIn(name, vars(Relation))


class MakingTests(Checks):

    def test_full_and_empty(self):
        for places in range(5):
            self.same(full_relation(places).members, tuple(standings_by_trying(places)))
            self.same(empty_relation(places).members, ())
            self.same(full_relation(places).places, places)
            self.same(empty_relation(places).places, places)

    def test_wrong_counts(self):
        for thing in NO_NUMBERS + (5, 6, 7):
            self.wrong(BadCount, {"what": "places"}, full_relation, thing)
            self.wrong(BadCount, {"what": "places"}, empty_relation, thing)

    def test_one_standing(self):
        for places in range(5):
            for standing in standings_by_trying(places):
                self.assertEqual(one_standing(standing), Relation(places, [standing]))
        self.same(one_standing([1, 0]).members, ((1, 0),))
        self.same(one_standing(()).members, ((),))
        given = [1, 0]
        one_standing(given)
        self.assertEqual(given, [1, 0])

    def test_one_standing_errors(self):
        for ranks, index in ((None, -1), ((0,) * 8, -1), ((0, True), 1), ((0, 2), -1), ((0, 1, 2, 3, 5), -1)):
            self.wrong(BadStanding, {"index": index}, one_standing, ranks)
        for ranks in ((0, 1, 2, 3, 4), (0,) * 5, [0] * 7):
            self.wrong(TooMany, {"most": 4}, one_standing, ranks)


class SetsTests(Checks):

    def check_pair(self, one, other):
        here, there = set(one.members), set(other.members)
        self.assertEqual(meet_of(one, other), Relation(one.places, sorted(here & there)))
        self.assertEqual(join_of(one, other), Relation(one.places, sorted(here | there)))

    def test_meets_and_joins(self):
        for one in small_relations():
            for other in small_relations():
                if one.places == other.places:
                    self.check_pair(one, other)
        for places in (3, 4):
            relations = some_relations(places, 6)
            for one in relations:
                for other in relations:
                    self.check_pair(one, other)

    def test_other_places(self):
        for one in range(5):
            for other in range(5):
                if one != other:
                    self.wrong(OtherPlaces, {}, meet_of, full_relation(one), empty_relation(other))
                    self.wrong(OtherPlaces, {}, join_of, empty_relation(one), empty_relation(other))

    def test_left_out(self):
        for relation in small_relations() + some_relations(3, 20) + some_relations(4, 10):
            rest = [standing for standing in standings_by_trying(relation.places) if standing not in relation.members]
            self.assertEqual(left_out(relation), Relation(relation.places, rest))
            self.assertEqual(left_out(left_out(relation)), relation)

    def test_turned_relation(self):
        self.same(turned_relation(Relation(3, [(0, 1, 1), (0, 1, 2)])).members, ((1, 0, 0), (2, 1, 0)))
        for relation in small_relations() + some_relations(3, 20) + some_relations(4, 10):
            turned = [[max(member) - rank for rank in member] if member else () for member in relation.members]
            self.assertEqual(turned_relation(relation), Relation(relation.places, turned))
            self.assertEqual(turned_relation(turned_relation(relation)), relation)

    def test_relations_stay_as_they_were(self):
        one, other = Relation(2, [(0, 1), (1, 0)]), Relation(2, [(0, 0), (0, 1)])
        for call in (meet_of, join_of):
            self.unchanged(call, one, other)
        for call in (left_out, turned_relation):
            self.unchanged(call, one)
        self.same((one.members, other.members), (((0, 1), (1, 0)), ((0, 0), (0, 1))))
