"""Tests of [6.7] to [6.10]."""

import random

from earliestlots.clauses import Clause, broken_clause, clause_holds, clauses_in, clauses_relation, least_clauses
from earliestlots.closings import kept_by_lots
from earliestlots.errors import BadStanding, TooMany
from earliestlots.keeps import is_kept
from earliestlots.named import after_one_of, before_relation, tied_relation, unlike_relation
from earliestlots.relations import Relation, empty_relation, full_relation
from earliestlots.saying import (
    Barred, Needed, Said, Unsaid, few_clauses, needed_fault, needed_members, said_by)
from tests.helper import (
    NO_SEQUENCES, Checks, least_kept_by_lesser, linings_by_trying, made_as_told, relations_but_for_renaming,
    small_relations, some_relations, standings_by_trying, subsets, thin_relations)

SMALL = [relation for relation in small_relations() if relation.places > 0]
THREE = relations_but_for_renaming(3)
FOUR = thin_relations(4, 12, 6) + some_relations(4, 3) + [full_relation(4), empty_relation(4), after_one_of(4)]


class ResultTests(Checks):

    def test_they_keep_what_they_are_given(self):
        thing, other = [0], {}
        for made, names in ((Said, ["clauses"]), (Unsaid, ["standing"]), (Needed, ["members", "linings"]),
                            (Barred, ["clause"])):
            given = [thing, other][:len(names)]
            result = made(*given)
            self.assertEqual(vars(result), dict(zip(names, given)))
            self.assertIs(getattr(result, names[0]), thing)
            self.assertEqual(vars(made(**dict(zip(names, given)))), vars(result))
            self.assertTrue(result == made(*given))
            self.assertFalse(result == made(*[None, None][:len(names)]))
            for wrong in (None, thing, Said(1), Unsaid(1), Needed(1, 2), Barred(1)):
                self.assertFalse(result == wrong)
        self.assertFalse(Needed(1, 2) == Needed(1, 3))
        self.assertFalse(Needed(1, 2) == Needed(3, 2))
        self.assertFalse(Said(1) == Unsaid(1))
        self.assertFalse(Barred(1) == Said(1))


class SaidTests(Checks):

    def test_said_exactly_if_lesser_keeps_it(self):
        for relation in SMALL + THREE + FOUR:
            result = said_by(relation)
            clauses = least_clauses(relation)
            wrong = [standing for standing in standings_by_trying(relation.places)
                     if standing not in relation.members and all(clause_holds(clause, standing) for clause in clauses)]
            if wrong:
                self.assertIs(type(result), Unsaid)
                self.same(result.standing, wrong[0])
            else:
                self.assertIs(type(result), Said)
                self.assertIs(type(result.clauses), tuple)
                self.assertEqual(result.clauses, clauses)
                self.assertEqual(clauses_relation(relation.places, result.clauses), relation)
            self.assertIs(not wrong, kept_by_lots(relation, "lesser"))
            if relation.places < 3:
                self.assertIs(not wrong, is_kept(relation, "lesser"))

    def test_examples(self):
        self.assertEqual(said_by(after_one_of(3)), Said((Clause(0, (1, 2), ()),)))
        self.assertEqual(said_by(unlike_relation()), Unsaid((0, 0)))
        self.assertEqual(said_by(full_relation(2)), Said(()))
        self.assertEqual(said_by(empty_relation(2)), Said((Clause(0, (), ()), Clause(1, (), ()))))
        self.assertEqual(said_by(tied_relation()), Said((Clause(0, (), (1,)), Clause(1, (), (0,)))))

    def test_nothing_is_changed(self):
        self.unchanged(said_by, unlike_relation())
        self.unchanged(few_clauses, before_relation())
        self.unchanged(needed_members, unlike_relation(), [0, 0])


class FewTests(Checks):

    def test_the_first_of_the_least_number(self):
        for relation in SMALL + THREE:
            few = few_clauses(relation)
            if not kept_by_lots(relation, "lesser"):
                self.assertIsNone(few)
                continue
            self.assertIs(type(few), tuple)
            self.assertEqual(clauses_relation(relation.places, few), relation)
            rows = [row for row in subsets(least_clauses(relation))
                    if clauses_relation(relation.places, row) == relation]
            self.assertEqual(few, rows[0])

    def test_no_clauses_whatever_are_fewer(self):
        found = 0
        for relation in SMALL + THREE:
            if kept_by_lots(relation, "lesser"):
                found += 1
                few = few_clauses(relation)
                standings = standings_by_trying(relation.places)
                wanted = {at for at, standing in enumerate(standings) if standing not in relation.members}
                broken = [frozenset(at for at in wanted if not clause_holds(clause, standings[at]))
                          for clause in clauses_in(relation)]
                reached = {frozenset()}
                for _ in range(len(few)):
                    self.assertNotIn(wanted, reached)
                    reached = {row | more for row in reached for more in broken}
                self.assertIn(wanted, reached)
        self.assertGreater(found, 40)

    def test_edges(self):
        for places in (1, 2, 3):
            self.same(few_clauses(full_relation(places)), ())
            self.assertEqual(few_clauses(empty_relation(places)), (Clause(0, (), ()),))
        self.assertIsNone(few_clauses(unlike_relation()))
        for relation in (full_relation(4), empty_relation(4), after_one_of(4)):
            self.wrong(TooMany, {"most": 3}, few_clauses, relation)


def made_of(result):
    """What lesser makes of the members along the linings."""
    made = result.members[0]
    for member, lining in zip(result.members[1:], result.linings):
        made = made_as_told("lesser", made, member, lining)
    return made


class NeededTests(Checks):

    def check(self, relation, standing):
        """Whether it is Needed."""
        result = needed_members(relation, standing)
        held = [place for place in range(relation.places)
                if all(clause_holds(broken_clause(standing, place), member) for member in relation.members)]
        if held:
            self.assertEqual(result, Barred(broken_clause(standing, held[0])))
            self.assertIs(type(result), Barred)
            return False
        self.assertIs(type(result), Needed)
        self.assertTrue(1 <= len(result.members) <= 24)
        self.assertEqual(len(result.linings), len(result.members) - 1)
        self.same(result.members, tuple(map(tuple, result.members)))
        self.same(result.linings, tuple(map(tuple, result.linings)))
        self.assertLessEqual(set(result.members), set(relation.members))
        self.same(made_of(result), standing)
        self.assertIsNone(needed_fault(relation, standing, result))
        return True

    def test_all_standings(self):
        for relation in SMALL + THREE:
            least = least_kept_by_lesser(relation)
            for standing in standings_by_trying(relation.places):
                self.assertEqual(self.check(relation, standing), standing in least.members)

    def test_four_places(self):
        for relation in FOUR:
            least = clauses_relation(4, clauses_in(relation))
            for standing in standings_by_trying(4):
                self.assertEqual(self.check(relation, standing), standing in least.members)

    def test_without_members_the_least_place_bars(self):
        for places in range(1, 5):
            for standing in standings_by_trying(places):
                self.assertEqual(needed_members(empty_relation(places), list(standing)),
                                 Barred(broken_clause(standing, 0)))

    def test_examples(self):
        self.assertEqual(needed_members(before_relation(), (1, 0)), Barred(Clause(1, (), (0,))))
        result = needed_members(unlike_relation(), (0, 0))
        self.assertEqual(made_of(result), (0, 0))

    def test_errors(self):
        for relation in (before_relation(), empty_relation(2)):
            for call in (needed_members, lambda row, thing: needed_fault(row, thing, None)):
                for thing in NO_SEQUENCES + ((0,), (0, 1, 2), (0, 2), (1, 1), ()):
                    self.wrong(BadStanding, {"index": -1}, call, relation, thing)
                self.wrong(BadStanding, {"index": 1}, call, relation, (0, True))
                self.wrong(BadStanding, {"index": 0}, call, relation, [-1, "x"])


class NeededFaultTests(Checks):

    RIGHT = (((0, 1), (1, 0)), ((2, 2),))

    def fault(self, members, linings, standing=(0, 0)):
        return needed_fault(unlike_relation(), standing, Needed(members, linings))

    def test_right_ones(self):
        self.same(self.fault(*self.RIGHT), None)
        self.same(self.fault([[0, 1], [1, 0]], [[2, 2]], [0, 0]), None)
        self.same(self.fault(((0, 1),), (), (0, 1)), None)
        self.same(self.fault([[0, 1]], [], (0, 1)), None)
        self.same(self.fault(((0, 1), (0, 1)), ((2, 2),), (0, 1)), None)
        self.same(self.fault(((0, 1),) * 24, ((2, 2),) * 23, (0, 1)), None)

    def test_needed(self):
        for thing in NO_SEQUENCES + (self.RIGHT, Barred(1), Said(1)):
            self.same(needed_fault(unlike_relation(), (0, 0), thing), "needed")
        for thing in NO_SEQUENCES:
            self.same(self.fault(thing, ()), "needed")
            self.same(self.fault(((0, 1),), thing), "needed")
        for members, linings in (((), ()), (((0, 1),) * 25, ((2, 2),) * 24), (((0, 1),), ((2, 2),)),
                                 (((0, 1), (1, 0)), ()), ((None,), (None,))):
            self.same(self.fault(members, linings), "needed")

    def test_member(self):
        for thing in NO_SEQUENCES + ((), (0, 0), (0,), (0, 2), (0, "x"), (0, 1, 2), (False, True), (0.0, 1.0)):
            self.same(self.fault((thing,), ()), "member")
            self.same(self.fault(((0, 1), thing), (None,)), "member")
            self.same(self.fault(((0, 1), (0, 1), thing), (None, None)), "member")

    def test_lining(self):
        for thing in NO_SEQUENCES + ((), (2,), (2, True), (2, 2, 2), (0, 0), (2, 3), (0, 1, 2, 2)):
            self.same(self.fault(((0, 1), (1, 0)), (thing,)), "lining")
        # (0, 0) comes out first; it has one rank, so that the second lining is too long.
        self.same(self.fault(((0, 1), (1, 0), (0, 1)), ((2, 2), (2, 2))), "lining")
        self.same(self.fault(((0, 1), (1, 0), (0, 1)), ((2, 2), (2, 1))), None)

    def test_made(self):
        self.same(self.fault(((0, 1), (1, 0)), ((0, 0, 1, 1),)), "made")
        self.same(self.fault(((0, 1),), ()), "made")

    def test_all_linings_of_two_members(self):
        relation = Relation(3, [(0, 1, 2), (1, 0, 0), (2, 1, 0)])
        for one in relation.members:
            for other in relation.members:
                for lining in linings_by_trying(len(set(one)), len(set(other))):
                    made = made_as_told("lesser", one, other, lining)
                    for standing in standings_by_trying(3):
                        word = None if standing == made else "made"
                        self.same(needed_fault(relation, standing, Needed((one, other), (lining,))), word)

    def test_rows_of_members(self):
        picker = random.Random(69)
        members = THREE[900].members
        for _ in range(100):
            row = picker.choices(members, k=picker.randint(1, 6))
            made, linings = row[0], []
            for member in row[1:]:
                linings.append(picker.choice(linings_by_trying(len(set(made)), len(set(member)))))
                made = made_as_told("lesser", made, member, linings[-1])
            self.same(needed_fault(THREE[900], made, Needed(row, linings)), None)
            for standing in standings_by_trying(3)[::4]:
                word = None if standing == made else "made"
                self.same(needed_fault(THREE[900], standing, Needed(tuple(row), tuple(linings))), word)

    def test_nothing_is_changed(self):
        members, linings = [[0, 1], [1, 0]], [[2, 2]]
        self.fault(members, linings)
        self.assertEqual((members, linings), ([[0, 1], [1, 0]], [[2, 2]]))
