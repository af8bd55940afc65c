"""Tests of [6.1] to [6.6]."""

from earliestlots.clauses import (
    Clause, all_clauses, broken_clause, clause_holds, clause_implies, clauses_in, clauses_relation, least_clauses)
from earliestlots.errors import BadClause, BadCount, BadPlace, BadStanding, OtherPlaces
from earliestlots.keeps import grown_by
from earliestlots.named import before_relation, unlike_relation
from earliestlots.relations import Relation, empty_relation, full_relation
from tests.helper import (
    NO_NUMBERS, NO_SEQUENCES, NO_STANDINGS, Checks, least_kept_by_lesser, relations_but_for_renaming, small_relations,
    some_relations, standings_by_trying, subsets, thin_relations)

SMALL = [relation for relation in small_relations() if relation.places > 0]
THREE = relations_but_for_renaming(3)
FOUR = thin_relations(4, 12, 6) + some_relations(4, 3) + [full_relation(4), empty_relation(4)]


def clauses_by_trying(places):
    """All clauses with places below this, in the order of clauses, as (place, after, within)."""
    found = [(place, after, within) for place in range(places) for after in subsets(range(places))
             for within in subsets(range(places))
             if place not in after + within and not set(after) & set(within)]
    return sorted(found, key=lambda row: (row[0], len(row[1]) + len(row[2]), row[1], row[2]))


def parts(clause):
    return (clause.place, clause.after, clause.within)


def holds_as_told(row, standing):
    place, after, within = row
    return (any(standing[other] < standing[place] for other in after)
            or any(standing[other] <= standing[place] for other in within))


def implies_as_told(one, other):
    """Whether the one clause implies the other, by their parts."""
    return not one[1] + one[2] or (
        one[0] == other[0] and set(one[1]) <= set(other[1] + other[2]) and set(one[2]) <= set(other[2]))


class ClauseTests(Checks):

    def test_attributes(self):
        after, within = [3, 1, 3], (6, 0, 6, 0)
        clause = Clause(2, after, within)
        self.same(parts(clause), (2, (1, 3), (0, 6)))
        self.same(clause.width, 4)
        self.assertEqual((after, within), ([3, 1, 3], (6, 0, 6, 0)))
        after.append(5)
        self.same(clause.after, (1, 3))
        self.same(parts(Clause(place=0, after=(), within=[])), (0, (), ()))
        self.same(Clause(0, (), ()).width, 0)
        self.same(Clause(6, (5, 4, 3), [0, 1, 2]).width, 6)
        self.assertIs(type(vars(Clause)["width"]), property)

    def test_wrong_places(self):
        for thing in NO_NUMBERS + (7,):
            self.wrong(BadClause, {"what": "place"}, Clause, thing, None, None)

    def test_wrong_after_places(self):
        for thing in NO_SEQUENCES:
            self.wrong(BadClause, {"what": "after"}, Clause, 0, thing, None)
        for thing in NO_NUMBERS + (7, 0):
            self.wrong(BadClause, {"what": "after"}, Clause, 0, (1, thing), None)

    def test_wrong_within_places(self):
        for thing in NO_SEQUENCES:
            self.wrong(BadClause, {"what": "within"}, Clause, 0, (1,), thing)
        for thing in NO_NUMBERS + (7, 0, 1):
            self.wrong(BadClause, {"what": "within"}, Clause, 0, (1, 2), [3, thing])

    def test_equal(self):
        self.assertTrue(Clause(0, (1, 2), (3,)) == Clause(0, [2, 1, 1], (3, 3)))
        for other in (Clause(4, (1, 2), (3,)), Clause(0, (1,), (3,)), Clause(0, (1, 2), ()), Clause(0, (3,), (1, 2)),
                      (0, (1, 2), (3,)), None):
            self.assertFalse(Clause(0, (1, 2), (3,)) == other)

    def test_all_clauses(self):
        for places, many in ((1, 1), (2, 6), (3, 27), (4, 108)):
            clauses = list(all_clauses(places))
            self.same([parts(clause) for clause in clauses], clauses_by_trying(places))
            self.assertEqual(len(clauses), many)
            self.assertTrue(all(type(clause) is Clause for clause in clauses))

    def test_all_clauses_of_other_numbers(self):
        for thing in NO_NUMBERS + (0, 5):
            with self.assertRaises(BadCount) as caught:
                list(all_clauses(thing))
            self.assertEqual(vars(caught.exception), {"what": "places"})


class HoldsTests(Checks):

    def test_all_clauses_and_standings(self):
        for places in range(1, 5):
            for clause in all_clauses(places):
                for standing in standings_by_trying(places):
                    self.assertIs(clause_holds(clause, standing), holds_as_told(parts(clause), standing))

    def test_more_places(self):
        self.assertIs(clause_holds(Clause(6, (0,), (5,)), [1, 0, 0, 0, 0, 1, 1]), True)
        self.assertIs(clause_holds(Clause(6, (0,), (5,)), [1, 0, 0, 0, 0, 2, 1]), False)
        self.assertIs(clause_holds(Clause(0, (), ()), (0,) * 7), False)

    def test_errors(self):
        for thing, index in NO_STANDINGS:
            self.wrong(BadStanding, {"index": index}, clause_holds, Clause(5, (), ()), thing)
        for clause in (Clause(2, (), ()), Clause(0, (2,), ()), Clause(0, (1,), (2,)), Clause(1, (0,), (6,))):
            self.wrong(OtherPlaces, {}, clause_holds, clause, (0, 1))
        self.wrong(OtherPlaces, {}, clause_holds, Clause(0, (), ()), ())
        self.unchanged(clause_holds, Clause(0, (1,), ()), [1, 0])


class ImpliesTests(Checks):

    def test_by_its_parts_and_by_all_standings(self):
        for places in (1, 2, 3, 4):
            clauses = list(all_clauses(places))
            for more in (places, places + 1):
                standings = standings_by_trying(more)
                where = [sum(1 << at for at, standing in enumerate(standings) if holds_as_told(parts(clause), standing))
                         for clause in clauses]
                for one, here in zip(clauses, where):
                    for other, there in zip(clauses, where):
                        got = clause_implies(one, other)
                        self.assertIs(got, implies_as_told(parts(one), parts(other)))
                        self.assertIs(got, here & ~there == 0)

    def test_itself_and_of_two_at_most_one(self):
        for one in all_clauses(4):
            self.assertIs(clause_implies(one, one), True)
            for other in all_clauses(4):
                if one.place == other.place and one != other:
                    self.assertFalse(clause_implies(one, other) and clause_implies(other, one))

    def test_width_0_implies_all(self):
        for clause in all_clauses(4):
            self.assertIs(clause_implies(Clause(6, (), ()), clause), True)
        self.assertIs(clause_implies(Clause(6, (), ()), Clause(5, (), ())), True)

    def test_after_implies_within(self):
        self.assertIs(clause_implies(Clause(0, (1,), ()), Clause(0, (), (1,))), True)
        self.assertIs(clause_implies(Clause(0, (), (1,)), Clause(0, (1,), ())), False)
        self.assertIs(clause_implies(Clause(0, (1,), ()), Clause(2, (1,), ())), False)


class BrokenClauseTests(Checks):

    def test_all_clauses_at_the_place(self):
        for places in range(1, 5):
            clauses = list(all_clauses(places))
            for standing in standings_by_trying(places):
                for place in range(places):
                    broken = broken_clause(standing, place)
                    self.assertIs(clause_holds(broken, standing), False)
                    self.assertEqual(broken.place, place)
                    for clause in clauses:
                        if clause.place == place:
                            self.assertEqual(not clause_holds(clause, standing), clause_implies(clause, broken))

    def test_its_parts(self):
        self.same(parts(broken_clause((1, 0, 1, 2, 1), 0)), (0, (2, 4), (3,)))
        self.same(parts(broken_clause([0], 0)), (0, (), ()))
        self.same(parts(broken_clause((0, 1, 2, 3, 4, 5, 6), 0)), (0, (), (1, 2, 3, 4, 5, 6)))

    def test_errors(self):
        for thing, index in NO_STANDINGS:
            self.wrong(BadStanding, {"index": index}, broken_clause, thing, None)
        for thing in NO_NUMBERS + (2, 7):
            self.wrong(BadPlace, {}, broken_clause, (0, 1), thing)
        self.wrong(BadPlace, {}, broken_clause, (), 0)


class RelationTests(Checks):

    def test_clauses_in_and_least_clauses(self):
        for relation in SMALL + THREE[::3] + FOUR:
            rows = [row for row in clauses_by_trying(relation.places)
                    if all(holds_as_told(row, member) for member in relation.members)]
            self.same(tuple(map(parts, clauses_in(relation))), tuple(rows))
            least = [row for row in rows if not any(
                other != row and other[0] == row[0] and implies_as_told(other, row) for other in rows)]
            self.same(tuple(map(parts, least_clauses(relation))), tuple(least))

    def test_both_give_the_least_relation_that_lesser_keeps(self):
        for relation in SMALL + THREE[::40]:
            self.assertEqual(least_kept_by_lesser(relation), grown_by(relation, "lesser"))
        for relation in SMALL + THREE:
            grown = least_kept_by_lesser(relation)
            self.assertEqual(clauses_relation(relation.places, clauses_in(relation)), grown)
            self.assertEqual(clauses_relation(relation.places, list(least_clauses(relation))), grown)
        for relation in FOUR:
            self.assertEqual(clauses_relation(4, clauses_in(relation)), clauses_relation(4, least_clauses(relation)))

    def test_without_members(self):
        for places in range(1, 5):
            relation = empty_relation(places)
            self.same(tuple(map(parts, clauses_in(relation))), tuple(clauses_by_trying(places)))
            self.same(tuple(map(parts, least_clauses(relation))), tuple((place, (), ()) for place in range(places)))

    def test_all_members(self):
        for places in range(1, 5):
            self.same(clauses_in(full_relation(places)), ())
            self.same(least_clauses(full_relation(places)), ())

    def test_named_relations(self):
        self.same(tuple(map(parts, least_clauses(before_relation()))), ((1, (0,), ()),))
        self.same(tuple(map(parts, clauses_in(before_relation()))), ((1, (), (0,)), (1, (0,), ())))
        self.same(clauses_in(unlike_relation()), ())

    def test_clauses_relation(self):
        for places in range(1, 5):
            clauses = list(all_clauses(places))
            self.assertEqual(clauses_relation(places, ()), full_relation(places))
            for clause in clauses:
                members = [row for row in standings_by_trying(places) if holds_as_told(parts(clause), row)]
                self.assertEqual(clauses_relation(places, [clause]), Relation(places, members))
            for one in clauses[::7]:
                for other in clauses[::5]:
                    members = [row for row in standings_by_trying(places)
                               if holds_as_told(parts(one), row) and holds_as_told(parts(other), row)]
                    self.assertEqual(clauses_relation(places, (one, other, one)), Relation(places, members))

    def test_errors_of_clauses_relation(self):
        for thing in NO_NUMBERS + (0, 5):
            self.wrong(BadCount, {"what": "places"}, clauses_relation, thing, [Clause(6, (), ())])
        for clause in (Clause(2, (), ()), Clause(0, (2,), ()), Clause(0, (), (1, 6)), Clause(3, (0,), (1,))):
            self.wrong(OtherPlaces, {}, clauses_relation, 2, (Clause(0, (1,), ()), clause))

    def test_nothing_is_changed(self):
        clauses = [Clause(0, (1,), ()), Clause(1, (), (0,))]
        self.unchanged(clauses_relation, 2, clauses)
        clauses_in(before_relation())
        self.assertEqual(clauses, [Clause(0, (1,), ()), Clause(1, (), (0,))])
