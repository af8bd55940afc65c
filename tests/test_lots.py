"""Tests of [4.1] to [4.3], of closing_of and combined_lots in [4.7], and of [4.10] and [4.11]."""

import random
from itertools import permutations

from earliestlots.errors import BadClosing, BadDeed, NoLot
from earliestlots.lots import (
    closing_of, combined_lots, earliest_lots, equations_of, greatest_within, least_holding, rest_after, rest_by)
from earliestlots.named import before_relation, two_first_relation
from earliestlots.relations import Relation, empty_relation, full_relation
from tests.helper import (
    NO_DEEDS, NO_SEQUENCES, Checks, lots_as_told, rest_as_told, small_relations, some_relations, standings_by_trying,
    subsets)

RELATIONS = small_relations() + some_relations(3, 40) + some_relations(4, 12) + [
    two_first_relation(), full_relation(3), full_relation(4), empty_relation(3), empty_relation(4)]


class EarliestLotsTests(Checks):

    def test_the_fronts_of_the_members(self):
        for relation in RELATIONS:
            self.same(earliest_lots(relation), lots_as_told(relation))

    def test_the_order_of_lots(self):
        relation = Relation(3, [(0, 0, 0), (0, 0, 1), (1, 0, 1), (0, 1, 0), (0, 1, 1), (0, 2, 1)])
        self.same(earliest_lots(relation), ((0,), (1,), (0, 1), (0, 2), (0, 1, 2)))

    def test_without_members_or_places(self):
        for places in range(5):
            self.same(earliest_lots(empty_relation(places)), ())
        self.same(earliest_lots(Relation(0, [()])), ())

    def test_the_example(self):
        self.same(earliest_lots(two_first_relation()), ((0, 1), (0, 2), (1, 2)))
        for lot in ((0, 1), (0, 2), (1, 2)):
            self.assertEqual(rest_by(two_first_relation(), lot), full_relation(1))


class RestTests(Checks):

    def test_rests_by_all_lots_in_any_order(self):
        for relation in RELATIONS:
            for lot in lots_as_told(relation):
                wanted = rest_as_told(relation, lot)
                for places in permutations(lot):
                    self.assertEqual(rest_by(relation, places), wanted)
                    self.assertEqual(rest_by(relation, list(places)), wanted)

    def test_the_lot_of_all_places(self):
        for places in range(1, 5):
            self.assertEqual(rest_by(full_relation(places), tuple(range(places))), Relation(0, [()]))

    def test_places_are_numbered_anew(self):
        relation = Relation(4, [(1, 0, 2, 3), (2, 0, 1, 1), (0, 0, 1, 2)])
        self.assertEqual(rest_by(relation, [1]), Relation(3, [(0, 1, 2), (1, 0, 0)]))

    def test_what_is_no_earliest_lot(self):
        relation = Relation(3, [(0, 0, 1), (1, 0, 2)])
        for thing in NO_SEQUENCES + (
                (), [], (0,), (2,), (0, 2), (0, 1, 2), (1, 1), (0, 1, 1), (0, 1, 0), (3,), (1, 3), (0, True),
                (False, 1), (True,), ("1",), (1.0,), ([1],), (-1,), (-2, 0)):
            self.wrong(NoLot, {"index": 0}, rest_by, relation, thing)
        self.wrong(NoLot, {"index": 0}, rest_by, Relation(0, [()]), ())
        self.wrong(NoLot, {"index": 0}, rest_by, empty_relation(2), (0,))
        self.unchanged(rest_by, relation, [1, 0])


class RestAfterTests(Checks):

    def check_all_below(self, relation, taken, left, rest):
        """All rows of lots that begin with those taken."""
        self.assertEqual(rest_after(relation, taken), (left, rest))
        for lot in subsets(left)[1:]:
            places = tuple(left.index(place) for place in lot)
            if places in lots_as_told(rest):
                others = tuple(place for place in left if place not in lot)
                self.check_all_below(relation, taken + [lot[::-1]], others, rest_as_told(rest, places))
            else:
                self.wrong(NoLot, {"index": len(taken)}, rest_after, relation, taken + [lot])

    def test_all_rows_of_lots(self):
        for relation in small_relations() + some_relations(3, 12) + some_relations(4, 3) + [two_first_relation()]:
            self.check_all_below(relation, [], tuple(range(relation.places)), relation)

    def test_without_lots(self):
        for relation in RELATIONS:
            for lots in ((), []):
                left, rest = rest_after(relation, lots)
                self.same(left, tuple(range(relation.places)))
                self.assertEqual(rest, relation)

    def test_the_numbering_is_that_of_the_relation(self):
        relation = Relation(4, [(1, 0, 2, 3), (1, 0, 3, 2)])
        got = rest_after(relation, [[1], (0,)])
        self.same(got[0], (2, 3))
        self.assertEqual(got[1], Relation(2, [(0, 1), (1, 0)]))
        got = rest_after(relation, ([1], (0,), [3]))
        self.assertEqual(got, ((2,), full_relation(1)))
        self.assertIs(type(got), tuple)
        self.assertEqual(rest_after(relation, ([1], (0,), [3], [2])), ((), Relation(0, [()])))

    def test_what_can_not_be_taken(self):
        relation = full_relation(3)
        for thing in NO_SEQUENCES:
            self.wrong(NoLot, {"index": -1}, rest_after, relation, thing)
        for thing in NO_SEQUENCES + ((), (1,), (1, 0), (0, 0), (3,), (True,), (2, True), ("0",), (-1,)):
            self.wrong(NoLot, {"index": 1}, rest_after, relation, [(1,), thing, None])
        for thing in ((), (0,), None, (3,), [()]):
            self.wrong(NoLot, {"index": 2}, rest_after, relation, [(1,), [2, 0], thing])
            self.wrong(NoLot, {"index": 0}, rest_after, Relation(0, [()]), [thing])
        self.wrong(NoLot, {"index": 0}, rest_after, empty_relation(2), [(0,)])
        self.unchanged(rest_after, relation, [[1], [2, 0]])

    def test_lots_that_hold_all_places(self):
        for relation in small_relations() + some_relations(3, 10) + some_relations(4, 2):
            for standing in standings_by_trying(relation.places) if relation.places else []:
                layers = [[place for place, rank in enumerate(standing) if rank == layer]
                          for layer in range(max(standing) + 1)]
                if standing in relation.members:
                    self.assertEqual(rest_after(relation, layers), ((), Relation(0, [()])))
                else:
                    with self.assertRaises(NoLot):
                        rest_after(relation, layers)


class ClosingTests(Checks):

    def test_closing_of(self):
        self.same([closing_of(deed) for deed in ("lesser", "odd", "common")], ["joining", "sums", "meets"])
        for thing in NO_DEEDS:
            self.wrong(BadDeed, {}, closing_of, thing)

    def test_combined_lots(self):
        lots = subsets(range(4))[1:] + [(0, 6), (2, 5, 6)]
        for one in lots:
            for other in lots:
                places = range(7)
                self.same(combined_lots("joining", one, other),
                          tuple(place for place in places if place in one or place in other))
                self.same(combined_lots("sums", one, list(other)),
                          tuple(place for place in places if (place in one) != (place in other)))
                self.same(combined_lots("meets", list(one), other),
                          tuple(place for place in places if place in one and place in other))

    def test_combined_lots_may_be_empty_and_ascend(self):
        self.same(combined_lots("sums", (1, 2), (1, 2)), ())
        self.same(combined_lots("meets", (1,), (0, 2)), ())
        self.same(combined_lots("joining", (8, 16), (1, 2)), (1, 2, 8, 16))
        self.same(combined_lots("sums", (8, 16, 40), (1, 2, 40)), (1, 2, 8, 16))
        self.same(combined_lots("meets", (9, 8, 16), (16, 8, 9)), (8, 9, 16))
        self.unchanged(combined_lots, "sums", [1, 2], [2, 3])

    def test_wrong_closings(self):
        for thing in (None, "", "lesser", "Joining", "sum", 0, True, ["sums"], ("meets",), {}, b"sums"):
            self.wrong(BadClosing, {}, combined_lots, thing, (0,), (0, 1))


def some_lots(picker, most):
    """Up to so many lots of places below 5, in any order, some of them twice."""
    lots = subsets(range(5))[1:]
    return [picker.sample(lot, len(lot)) for lot in picker.choices(lots, k=picker.randint(0, most))]


class WithinAndHoldingTests(Checks):

    def test_greatest_within(self):
        lots = [(0, 1), [2], (3, 1), (4, 5, 6)]
        self.same(greatest_within(lots, (0, 1, 2, 4, 5)), (0, 1, 2))
        self.same(greatest_within(lots, [3, 1, 1, 0]), (0, 1, 3))
        self.same(greatest_within(lots, (0, 4, 5)), None)
        self.same(greatest_within(lots, ()), None)
        self.same(greatest_within((), (0, 1)), None)
        self.unchanged(greatest_within, [[1, 0], [2]], [2, 1, 0])

    def test_least_holding(self):
        lots = [(0, 1, 2), [3, 2, 1], (1, 2), (0, 4, 5)]
        self.same(least_holding(lots, (1,)), (1, 2))
        self.same(least_holding(lots, [2, 2, 3]), (1, 2, 3))
        self.same(least_holding(lots, (0,)), (0,))
        self.same(least_holding(lots, (4, 1)), None)
        self.same(least_holding(lots, ()), ())
        self.same(least_holding((), []), ())
        self.same(least_holding([], (0,)), None)
        self.same(least_holding([[6, 2, 4]], [4]), (2, 4, 6))
        self.unchanged(least_holding, [[1, 0], [0, 2]], [0])

    def test_all_choices(self):
        picker = random.Random(410)
        for _ in range(200):
            lots = some_lots(picker, 5)
            places = picker.choices(range(5), k=picker.randint(0, 5))
            within = [set(lot) for lot in lots if set(lot) <= set(places)]
            self.same(greatest_within(lots, places), tuple(sorted(set().union(*within))) if within else None)
            holding = [set(lot) for lot in lots if set(places) <= set(lot)]
            wanted = tuple(sorted(set(range(7)).intersection(*holding))) if holding else None
            self.same(least_holding(lots, places), wanted if places else ())

    def test_of_closed_lots_they_are_lots(self):
        lots = subsets(range(4))[1:]
        for row in [row for row in subsets(lots) if 0 < len(row) < 4]:
            sets = [frozenset(lot) for lot in row]
            if all(one | other in sets for one in sets for other in sets):
                for places in lots:
                    self.assertIn(greatest_within(row, places), row + (None,))
            if all(one & other in sets for one in sets for other in sets if one & other):
                for places in lots:
                    self.assertIn(least_holding(row, places), row + (None,))


class EquationsTests(Checks):

    def test_the_example(self):
        self.same(equations_of(((0, 1), (0, 2), (1, 2)), (0, 1, 2)), ((0, 1, 2),))

    def test_edges(self):
        self.same(equations_of([], [2, 0, 2]), ((0,), (2,), (0, 2)))
        self.same(equations_of([], ()), ())
        self.same(equations_of([(0, 1)], ()), ())
        self.same(equations_of([[1, 5]], [0, 1, 1]), ((0,),))
        self.same(equations_of([(0, 1, 5), (0, 1, 5)], (1, 0)), ((0, 1),))
        self.assertEqual(len(equations_of((), range(7))), 127)
        self.unchanged(equations_of, [[0, 1], [1, 2]], [2, 1, 0])

    def test_all_equations_in_the_order_of_lots(self):
        picker = random.Random(411)
        for _ in range(100):
            lots = some_lots(picker, 4)
            places = picker.choices(range(5), k=picker.randint(0, 6))
            wanted = [row for row in subsets(sorted(set(places)))[1:]
                      if all(len(set(row) & set(lot)) % 2 == 0 for lot in lots)]
            self.same(equations_of(lots, places), tuple(wanted))

    def test_just_the_odd_sums_meet_all_equations_evenly(self):
        picker = random.Random(412)
        for _ in range(100):
            lots = some_lots(picker, 4)
            sums = set()
            for chosen in subsets(lots)[1:]:
                total = frozenset()
                for lot in chosen:
                    total = total ^ frozenset(lot)
                sums.add(total)
            equations = equations_of(lots, range(5))
            for lot in subsets(range(5))[1:]:
                even = all(len(set(lot) & set(row)) % 2 == 0 for row in equations)
                self.assertEqual(even, frozenset(lot) in sums)

    def test_before_has_one_lot(self):
        self.same(equations_of(earliest_lots(before_relation()), (0, 1)), ((1,),))
