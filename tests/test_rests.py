"""Tests of [4.4] to [4.6]."""

from earliestlots.errors import BadStray
from earliestlots.keeps import BrokenOver, broken_over, over_fault
from earliestlots.named import after_one_of, between_relation, two_first_relation
from earliestlots.relations import Relation, empty_relation, full_relation
from earliestlots.rests import Stray, all_rests, over_by_lots, over_from, stray_at, stray_fault
from tests.helper import (
    NO_SEQUENCES, Checks, layers, over_as_told, part_of, relations_but_for_renaming, row_order, rows_as_told,
    small_relations, some_relations, standings_by_trying, subsets, thin_relations)

SMALL = small_relations()
THREE = relations_but_for_renaming(3)
FOUR = some_relations(4, 6) + thin_relations(4, 60, 4) + [full_relation(4), empty_relation(4), after_one_of(4)]
RELATIONS = SMALL + THREE[::5] + FOUR + [between_relation(), two_first_relation(), full_relation(3), empty_relation(3)]


def strays_as_told(relation):
    """All strays, in their order."""
    found = []
    for before, left, rest in rows_as_told(relation):
        for lot in subsets(range(len(left)))[1:]:
            behind = [member for member in rest.members if layers(member)[0] == lot]
            others = [place for place in range(len(left)) if place not in lot]
            for member in rest.members:
                if behind and part_of(member, others) not in [part_of(row, others) for row in behind]:
                    found.append((before, tuple(left[place] for place in lot), member))
    return sorted(found, key=lambda row: (row_order(row[0]), row_order([row[1]]), row[2]))


def shown(stray):
    """What a stray holds, or None."""
    return None if stray is None else (stray.before, stray.lot, stray.standing)


class AllRestsTests(Checks):

    def test_all_unlike_couples_ascending(self):
        for relation in RELATIONS:
            wanted = {(left, rest.members) for _, left, rest in rows_as_told(relation)}
            rests = all_rests(relation)
            self.same(tuple((left, rest.members) for left, rest in rests), tuple(sorted(wanted)))
            for couple in rests:
                self.assertIs(type(couple), tuple)
                self.assertIs(type(couple[1]), Relation)
                self.assertEqual(couple[1].places, len(couple[0]))

    def test_none_of_0_places(self):
        self.same(all_rests(Relation(0, [()])), ())
        self.same(all_rests(empty_relation(0)), ())
        self.assertEqual(all_rests(full_relation(1)), (((0,), full_relation(1)),))

    def test_without_members_it_is_alone(self):
        for places in range(1, 5):
            relation = empty_relation(places)
            self.assertEqual(all_rests(relation), ((tuple(range(places)), relation),))

    def test_the_order_is_that_of_tuples(self):
        got = [left for left, _ in all_rests(full_relation(3))]
        self.same(got, [(0,), (0, 1), (0, 1, 2), (0, 2), (1,), (1, 2), (2,)])

    def test_one_choice_of_places_left_with_several_rests(self):
        relation = Relation(4, [(0, 1, 2, 3), (1, 0, 3, 2)])
        got = [(left, rest.members) for left, rest in all_rests(relation)]
        self.assertIn(((2, 3), ((0, 1),)), got)
        self.assertIn(((2, 3), ((1, 0),)), got)
        self.assertLess(got.index(((2, 3), ((0, 1),))), got.index(((2, 3), ((1, 0),))))

    def test_two_rows_of_lots_with_equal_rests_count_once(self):
        relation = Relation(4, [(0, 1, 2, 3), (1, 0, 2, 3)])
        self.assertEqual([left for left, _ in all_rests(relation)].count((2, 3)), 1)
        self.assertEqual(len(all_rests(relation)), 5)

    def test_at_most_75(self):
        self.assertLessEqual(max(len(all_rests(relation)) for relation in RELATIONS), 75)
        # For each row of lots a rest of its own, as far as can be.
        self.assertEqual(len(all_rests(full_relation(4))), 15)

    def test_nothing_is_changed(self):
        self.unchanged(all_rests, full_relation(3))


class StrayTests(Checks):

    def test_results_keep_what_they_are_given(self):
        before, lot, standing = [0], {}, "x"
        stray = Stray(before, lot, standing)
        self.assertIs(stray.before, before)
        self.assertIs(stray.lot, lot)
        self.assertIs(stray.standing, standing)
        self.assertEqual(vars(Stray(before=1, lot=2, standing=3)), {"before": 1, "lot": 2, "standing": 3})
        self.assertTrue(Stray(1, 2, 3) == Stray(1, 2, 3))
        for other in (Stray(0, 2, 3), Stray(1, 0, 3), Stray(1, 2, 0), (1, 2, 3), None, BrokenOver(1, 2, 3)):
            self.assertFalse(Stray(1, 2, 3) == other)
        self.assertFalse(Stray(1, (2,), 3) == Stray(1, [2], 3))

    def test_the_first_stray(self):
        for relation in SMALL + THREE + FOUR:
            wanted = strays_as_told(relation)
            got = stray_at(relation)
            self.same(shown(got), wanted[0] if wanted else None)
            self.assertIs(over_by_lots(relation), not wanted)

    def test_it_can_be_taken_over_exactly_without_a_stray(self):
        for relation in SMALL + THREE + FOUR:
            self.assertIs(over_by_lots(relation), broken_over(relation) is None)

    def test_strays_behind_lots_that_were_taken(self):
        deep = [stray_at(relation) for relation in FOUR if shown(stray_at(relation))]
        self.assertTrue([stray for stray in deep if len(stray.before) > 0])
        # The third place is first in both rows; behind it the others stand as in between.
        relation = Relation(4, [(1, 2, 0, 3), (3, 2, 0, 1)])
        self.same(shown(stray_at(relation)), (((2,),), (0,), (2, 1, 0)))

    def test_the_example(self):
        self.assertEqual(stray_at(between_relation()), Stray((), (0,), (2, 1, 0)))
        self.assertEqual(over_from(between_relation(), Stray((), (0,), (2, 1, 0))), BrokenOver((0, 1, 2), 1, (2, 1, 0)))
        self.assertIsNone(stray_at(two_first_relation()))

    def test_without_members_or_places(self):
        for relation in [empty_relation(places) for places in range(5)] + [Relation(0, [()])]:
            self.assertIsNone(stray_at(relation))
            self.assertIs(over_by_lots(relation), True)

    def test_nothing_is_changed(self):
        self.unchanged(over_by_lots, between_relation())
        before = between_relation()
        stray_at(before)
        self.assertEqual(before, between_relation())


class StrayFaultTests(Checks):

    def word_as_told(self, relation, stray, strays, rows):
        if stray.before not in rows and stray.before not in map(layers, relation.members):
            return "before"
        if stray.before not in rows:
            return "lot"
        left, rest = rows[stray.before]
        if stray.lot not in [tuple(left[place] for place in layers(row)[0]) for row in rest.members]:
            return "lot"
        if stray.standing not in rest.members:
            return "standing"
        return None if shown(stray) in strays else "kept"

    def test_all_strays_of_small_relations(self):
        words = set()
        for relation in SMALL + [between_relation(), two_first_relation()] + THREE[700:704]:
            strays = strays_as_told(relation)
            rows = {before: (left, rest) for before, left, rest in rows_as_told(relation)}
            lots = subsets(range(relation.places))[1:]
            befores = [()] + [(lot,) for lot in lots] + [(one, other) for one in lots for other in lots]
            standings = [row for many in range(relation.places + 1) for row in standings_by_trying(many)]
            for before in befores:
                for lot in lots:
                    for standing in standings:
                        stray = Stray(before, lot, standing)
                        wanted = self.word_as_told(relation, stray, strays, rows)
                        self.assertEqual(stray_fault(relation, stray), wanted)
                        words.add(wanted)
        self.assertEqual(words, {None, "before", "lot", "standing", "kept"})

    def test_every_stray_is_right_and_leads_out(self):
        for relation in SMALL + THREE[::7] + FOUR[:40]:
            for before, lot, standing in strays_as_told(relation):
                self.assertIsNone(stray_fault(relation, Stray(before, lot, standing)))
                turned = Stray([list(row[::-1]) for row in before], list(lot[::-1]), list(standing))
                self.assertIsNone(stray_fault(relation, turned))
                over = over_from(relation, turned)
                self.assertEqual(over, over_from(relation, Stray(before, lot, standing)))
                beginning = before + (lot,)
                self.same(over.one, min(row for row in relation if layers(row)[:len(beginning)] == beginning))
                left = [place for place in range(relation.places) if place not in sum(before, ())]
                self.same(over.other, [row for row in relation.members if layers(row)[:len(before)] == before
                                       and part_of(row, left) == standing][0])
                self.same(over.cut, len(before) + 1)
                self.assertNotIn(over_as_told(over.one, over.cut, over.other), relation.members)
                self.assertIsNone(over_fault(relation, over))

    def test_the_words_in_their_order(self):
        relation = between_relation()
        self.assertIsNone(stray_fault(relation, Stray((), (0,), (2, 1, 0))))
        for thing in NO_SEQUENCES:
            self.assertEqual(stray_fault(relation, Stray(thing, None, None)), "before")
        for thing in NO_SEQUENCES + ((), (1,), (0, 0), (True,), (0, 1), (3,), ("0",), (-1,)):
            self.assertEqual(stray_fault(relation, Stray((thing,), None, None)), "before")
            self.assertEqual(stray_fault(relation, Stray([[2], [1], thing], None, None)), "before")
            self.assertEqual(stray_fault(relation, Stray((), thing, None)), "lot")
        for thing in NO_SEQUENCES + ((), (0, 1), (0, 0, 0), (2, True, 0), (0, 1, "2"), (0, 1, 2, 3)):
            self.assertEqual(stray_fault(relation, Stray((), (0,), thing)), "standing")
        self.assertEqual(stray_fault(relation, Stray((), (0,), (0, 1, 2))), "kept")

    def test_when_no_place_is_left_the_word_is_lot(self):
        for relation in (full_relation(1), full_relation(2), full_relation(3)):
            whole = tuple(range(relation.places))
            for thing in ((), whole, (0,), None):
                self.assertEqual(stray_fault(relation, Stray((whole,), thing, ())), "lot")
        self.assertEqual(stray_fault(Relation(0, [()]), Stray((), (), ())), "lot")
        self.assertEqual(stray_fault(Relation(0, [()]), Stray(((),), (), ())), "before")

    def test_with_a_lot_of_all_that_is_left_it_is_kept(self):
        relation = Relation(3, [(0, 1, 1), (0, 1, 2)])
        self.assertEqual(stray_fault(relation, Stray(((0,),), (2, 1), (0, 1))), "kept")
        self.assertEqual(stray_fault(relation, Stray([[0]], [1, 2], [0, 0])), "kept")
        self.assertEqual(stray_fault(relation, Stray(((0,),), (1, 2), (1, 0))), "standing")

    def test_over_from_raises_the_word(self):
        relation = between_relation()
        for stray, word in (
                (Stray(None, None, None), "before"), (Stray((), (1,), None), "lot"),
                (Stray((), (0,), (0, 0, 0)), "standing"), (Stray((), (0,), (0, 1, 2)), "kept")):
            self.assertEqual(stray_fault(relation, stray), word)
            self.wrong(BadStray, {"what": word}, over_from, relation, stray)

    def test_nothing_is_changed(self):
        relation = Relation(4, [(1, 2, 0, 3), (3, 2, 0, 1)])
        stray = Stray([[2]], [0], [2, 1, 0])
        self.unchanged(stray_fault, relation, stray)
        over_from(relation, stray)
        self.assertEqual(vars(stray), {"before": [[2]], "lot": [0], "standing": [2, 1, 0]})
