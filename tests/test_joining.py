"""Tests of [2.4], [2.5], [2.7] and [2.8]."""

import random
from itertools import permutations, product

from earliestlots.errors import BadCount, BadDates, BadParts, BadPlaces, TooMany
from earliestlots.joining import defined_by, made_equal, renamed, set_beside, without_place
from earliestlots.keeps import broken_over, is_kept
from earliestlots.named import (
    after_all_of, after_one_of, before_relation, between_relation, not_after_relation, tied_relation,
    two_first_relation, unlike_relation, with_or_after_one_of)
from earliestlots.relations import Relation, empty_relation, full_relation, join_of, left_out, meet_of, turned_relation
from tests.helper import (
    DEEDS, NO_NUMBERS, NO_SEQUENCES, Checks, part_of, small_relations, some_relations, standings_by_trying)

NOTHING = Relation(0, [])
HOLDS = Relation(0, [()])
RELATIONS = small_relations() + some_relations(3, 25) + some_relations(4, 8) + [empty_relation(3), full_relation(4)]


class RenamedTests(Checks):

    def test_place_i_is_the_old_place_named(self):
        relation = Relation(3, [(0, 1, 2), (0, 2, 1)])
        self.same(renamed(relation, [2, 0, 1]).members, ((1, 0, 2), (2, 0, 1)))

    def test_all_orders_of_places(self):
        for relation in RELATIONS:
            for places in permutations(range(relation.places)):
                wanted = [[member[place] for place in places] for member in relation.members]
                self.assertEqual(renamed(relation, list(places)), Relation(relation.places, wanted))

    def test_no_places(self):
        for relation in (NOTHING, HOLDS):
            self.assertEqual(renamed(relation, ()), relation)
            self.assertEqual(renamed(relation, []), relation)

    def test_wrong_places(self):
        for relation in (before_relation(), empty_relation(2)):
            for thing in NO_SEQUENCES + ((0,), (1,), ()):
                self.wrong(BadPlaces, {"index": -1}, renamed, relation, thing)
            for thing in NO_NUMBERS + (2, 3):
                self.wrong(BadPlaces, {"index": 1}, renamed, relation, (0, thing))
                self.wrong(BadPlaces, {"index": 0}, renamed, relation, (thing,))
            self.wrong(BadPlaces, {"index": 1}, renamed, relation, (0, 0))
            self.wrong(BadPlaces, {"index": 2}, renamed, relation, (0, 1, 1))
        self.wrong(BadPlaces, {"index": 0}, renamed, HOLDS, (0,))
        self.wrong(BadPlaces, {"index": -1}, renamed, full_relation(4), (3, 1, 0))

    def test_nothing_is_changed(self):
        self.unchanged(renamed, Relation(2, [(0, 1)]), [1, 0])


class WithoutPlaceTests(Checks):

    def test_a_standing_is_a_member_if_the_place_can_get_a_rank(self):
        for relation in RELATIONS:
            for place in range(relation.places):
                others = [other for other in range(relation.places) if other != place]
                wanted = [
                    ranks for ranks in standings_by_trying(relation.places - 1)
                    if any(part_of(member, others) == ranks for member in relation.members)]
                self.assertEqual(without_place(relation, place), Relation(relation.places - 1, wanted))

    def test_one_place_leaves_none(self):
        self.assertEqual(without_place(full_relation(1), 0), HOLDS)
        self.assertEqual(without_place(empty_relation(1), 0), NOTHING)

    def test_wrong_places(self):
        for thing in NO_NUMBERS + (2, 3, [0], None):
            self.wrong(BadPlaces, {"index": 0}, without_place, before_relation(), thing)
        self.wrong(BadPlaces, {"index": 0}, without_place, HOLDS, 0)
        self.unchanged(without_place, Relation(2, [(0, 1)]), 1)


class SetBesideTests(Checks):

    def check_pair(self, one, other):
        places = one.places + other.places
        wanted = [
            ranks for ranks in standings_by_trying(places)
            if part_of(ranks, range(one.places)) in one.members
            and part_of(ranks, range(one.places, places)) in other.members]
        self.assertEqual(set_beside(one, other), Relation(places, wanted))

    def test_how_the_two_stand_is_free(self):
        self.same(set_beside(before_relation(), full_relation(1)).members,
                  ((0, 1, 0), (0, 1, 1), (0, 1, 2), (0, 2, 1), (1, 2, 0)))
        for one in RELATIONS:
            for other in small_relations() + [two_first_relation()]:
                if one.places + other.places <= 4:
                    self.check_pair(one, other)
                    self.check_pair(other, one)

    def test_no_places(self):
        for relation in RELATIONS:
            self.assertEqual(set_beside(relation, HOLDS), relation)
            self.assertEqual(set_beside(HOLDS, relation), relation)
            self.assertEqual(set_beside(relation, NOTHING), empty_relation(relation.places))

    def test_too_many(self):
        for one in range(5):
            for other in range(5):
                if one + other > 4:
                    self.wrong(TooMany, {"most": 4}, set_beside, full_relation(one), empty_relation(other))
        self.unchanged(set_beside, before_relation(), tied_relation())


class MadeEqualTests(Checks):

    def test_all_dates(self):
        for relation in RELATIONS:
            for dates in product((0, 3, 6, 1)[:max(2, relation.places)], repeat=relation.places):
                unlike = tuple(dict.fromkeys(dates))
                members = []
                for ranks in standings_by_trying(len(unlike)):
                    if tuple(ranks[unlike.index(date)] for date in dates) in relation.members:
                        members.append(ranks)
                got = made_equal(relation, list(dates))
                self.assertEqual(got, (Relation(len(unlike), members), unlike))
                self.same(got[1], unlike)
                self.assertIs(type(got), tuple)

    def test_without_doubles_it_is_the_old_one(self):
        for relation in RELATIONS:
            dates = (6, 2, 0, 4)[:relation.places]
            self.assertEqual(made_equal(relation, dates), (relation, dates))

    def test_edges(self):
        self.assertEqual(made_equal(HOLDS, ()), (HOLDS, ()))
        self.assertEqual(made_equal(NOTHING, []), (NOTHING, ()))
        self.assertEqual(made_equal(before_relation(), (5, 5)), (empty_relation(1), (5,)))
        self.assertEqual(made_equal(not_after_relation(), (0, 0)), (full_relation(1), (0,)))
        self.assertEqual(made_equal(after_one_of(4), (3, 3, 3, 3)), (empty_relation(1), (3,)))

    def test_wrong_dates(self):
        relation = before_relation()
        for thing in NO_SEQUENCES + ((), (0,), (0, 1, 2), (0,) * 8, ("x",) * 8):
            self.wrong(BadDates, {"index": -1}, made_equal, relation, thing)
        for thing in NO_NUMBERS + (7, 8):
            self.wrong(BadDates, {"index": 1}, made_equal, relation, (0, thing))
            self.wrong(BadDates, {"index": 2}, made_equal, relation, (0, 0, thing))
        self.wrong(BadDates, {"index": -1}, made_equal, HOLDS, (0,))
        self.unchanged(made_equal, relation, [3, 3])


class DefinedByTests(Checks):

    def check(self, size, parts, shown):
        wanted = [
            part_of(ranks, shown) for ranks in standings_by_trying(size)
            if all(part_of(ranks, dates) in relation.members for relation, dates in parts)]
        self.assertEqual(defined_by(size, parts, shown), Relation(len(shown), wanted))

    def test_the_example(self):
        parts = [(before_relation(), (0, 2)), (before_relation(), (2, 1))]
        self.same(defined_by(3, parts, (0, 1)).members, ((0, 1),))

    def test_without_parts_all_fit(self):
        for size in range(6):
            for many in range(min(size, 4) + 1):
                shown = list(range(size))[:many]
                self.assertEqual(defined_by(size, [], shown), full_relation(many))

    def test_parts_of_no_places(self):
        for size in range(3):
            shown = tuple(range(size))
            self.assertEqual(defined_by(size, [(HOLDS, ())], shown), full_relation(size))
            self.assertEqual(defined_by(size, [(NOTHING, [])], shown), empty_relation(size))
            self.assertEqual(defined_by(size, [(HOLDS, []), (NOTHING, ())], ()), NOTHING)

    def test_a_date_may_stand_twice_in_a_part(self):
        self.assertEqual(defined_by(1, [(before_relation(), (0, 0))], (0,)), empty_relation(1))
        self.assertEqual(defined_by(1, [(tied_relation(), (0, 0))], (0,)), full_relation(1))
        self.check(3, [(after_one_of(4), (0, 1, 0, 2))], (2, 0, 1))

    def test_some_definitions(self):
        picker = random.Random(7)
        relations = [relation for relation in RELATIONS if len(relation)]
        for size in range(1, 6):
            for _ in range(6 if size == 5 else 25):
                parts = []
                for _ in range(picker.randint(0, 3)):
                    relation = picker.choice(relations)
                    parts.append([relation, [picker.randrange(size) for _ in range(relation.places)]])
                self.check(size, parts, picker.sample(range(size), picker.randint(0, min(size, 4))))

    def test_six_parts_and_four_shown(self):
        parts = [(unlike_relation(), (one, other)) for one in range(4) for other in range(one)]
        self.assertEqual(len(parts), 6)
        self.check(4, parts, (3, 2, 1, 0))
        self.assertEqual(len(defined_by(4, parts, (3, 2, 1, 0))), 24)

    def test_errors_in_their_order(self):
        part = (before_relation(), (0, 1))
        for thing in NO_NUMBERS + (6, 7):
            self.wrong(BadCount, {"what": "size"}, defined_by, thing, None, None)
        for thing in NO_SEQUENCES + ([part] * 7, ["x"] * 7):
            self.wrong(BadParts, {"index": -1}, defined_by, 2, thing, None)
        wrong_parts = NO_SEQUENCES + (
            (), (before_relation(),), (before_relation(), (0, 1), 0), ((0, 1), before_relation()), ([(0, 1)], (0, 1)),
            (before_relation(), (0,)), (before_relation(), (0, 1, 1)), (before_relation(), 1), (HOLDS, (0,)),
            (before_relation(), (0, 2)), (before_relation(), (0, True)), (before_relation(), (-1, 0)),
            (before_relation(), {0: 1, 1: 0}), (before_relation(), "01"), (before_relation(), full_relation(2)))
        for thing in wrong_parts:
            self.wrong(BadParts, {"index": 1}, defined_by, 2, [part, thing, None], None)
        for thing in NO_SEQUENCES:
            self.wrong(BadPlaces, {"index": -1}, defined_by, 2, [part], thing)
        for thing in NO_NUMBERS + (5, 6, 0):
            self.wrong(BadPlaces, {"index": 1}, defined_by, 5, [part], (0, thing, 1, 2, 3, 4))
        self.wrong(BadPlaces, {"index": 5}, defined_by, 5, [], (0, 1, 2, 3, 4, 4))
        self.wrong(TooMany, {"most": 4}, defined_by, 5, [], (0, 1, 2, 3, 4))

    def test_nothing_is_changed(self):
        self.unchanged(defined_by, 3, [[before_relation(), [0, 2]], [before_relation(), [2, 1]]], [0, 1])


class KeptTests(Checks):
    """[2.8]: what is defined by kept relations is kept."""

    KEPT = (
        before_relation(), not_after_relation(), tied_relation(), unlike_relation(), two_first_relation(),
        after_one_of(3), after_all_of(3), with_or_after_one_of(3), full_relation(2), empty_relation(1), HOLDS, NOTHING)

    def test_definitions_keep_the_deed(self):
        picker = random.Random(28)
        for deed in DEEDS:
            kept = [relation for relation in self.KEPT if is_kept(relation, deed)]
            for _ in range(40):
                size = picker.randint(1, 4)
                parts = []
                for _ in range(picker.randint(1, 3)):
                    relation = picker.choice(kept)
                    parts.append((relation, [picker.randrange(size) for _ in range(relation.places)]))
                shown = picker.sample(range(size), picker.randint(0, min(size, 3)))
                defined = defined_by(size, parts, shown)
                self.assertTrue(is_kept(defined, deed))
                self.assertIsNone(broken_over(defined))

    def test_what_is_made_of_kept_relations(self):
        for deed in DEEDS:
            kept = [relation for relation in self.KEPT if is_kept(relation, deed)]
            for one in kept:
                self.assertTrue(is_kept(renamed(one, tuple(range(one.places))[::-1]), deed))
                self.assertTrue(is_kept(made_equal(one, (4, 2, 4)[:one.places])[0], deed))
                for place in range(one.places):
                    self.assertTrue(is_kept(without_place(one, place), deed))
                for other in kept:
                    if one.places == other.places:
                        self.assertTrue(is_kept(meet_of(one, other), deed))
                    if one.places + other.places <= 3:
                        self.assertTrue(is_kept(set_beside(one, other), deed))

    def test_what_need_not_be_kept(self):
        self.assertTrue(is_kept(after_one_of(3), "lesser"))
        self.assertFalse(is_kept(turned_relation(after_one_of(3)), "lesser"))
        before, after = before_relation(), turned_relation(before_relation())
        self.assertFalse(is_kept(join_of(before, after), "lesser"))
        self.assertFalse(is_kept(left_out(tied_relation()), "lesser"))
        self.assertFalse(is_kept(between_relation(), "lesser"))
