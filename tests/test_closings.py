"""Tests of lacking_pair in [4.7], and of [4.8] and [4.9]."""

import random

from earliestlots.closings import SpoiltAt, broken_from, kept_by_lots, lacking_pair, spoilt_at, spoilt_fault
from earliestlots.errors import BadClosing, BadDeed, BadSpoilt
from earliestlots.keeps import Broken, broken_fault, is_kept
from earliestlots.named import after_one_of, before_relation, between_relation, two_first_relation, unlike_relation
from earliestlots.relations import Relation, empty_relation, full_relation
from earliestlots.rests import over_by_lots
from tests.helper import (
    DEEDS, NO_DEEDS, NO_SEQUENCES, Checks, kept_as_told, layers, made_as_told, relations_but_for_renaming,
    rows_as_told, small_relations, some_relations, subsets, thin_relations)

SMALL = small_relations()
THREE = relations_but_for_renaming(3)
FOUR = some_relations(4, 5) + thin_relations(4, 60, 4) + [full_relation(4), empty_relation(4), after_one_of(4)]
RELATIONS = SMALL + THREE + FOUR
CLOSINGS = ("joining", "sums", "meets")


def combined_as_told(closing, one, other):
    """The combined lot."""
    places = range(8)
    if closing == "joining":
        return tuple(place for place in places if place in one or place in other)
    if closing == "sums":
        return tuple(place for place in places if (place in one) != (place in other))
    return tuple(place for place in places if place in one and place in other)


def lacking_as_told(lots, closing):
    """All (one, other, lacking) of the lots, in their order."""
    lots = sorted(set(lots), key=lambda lot: (len(lot), lot))
    rows = [(one, other, combined_as_told(closing, one, other))
            for at, one in enumerate(lots) for other in lots[at + 1:]]
    return [row for row in rows if row[2] not in lots and row[2]]


def spoilt_as_told(relation, deed):
    """All (before, (one, other, lacking)), in their order."""
    found = []
    for before, left, rest in rows_as_told(relation):
        lots = [tuple(left[place] for place in layers(member)[0]) for member in rest.members]
        found.extend((before, pair) for pair in lacking_as_told(lots, dict(zip(DEEDS, CLOSINGS))[deed]))
    return found


def shown(spoilt):
    """What a SpoiltAt holds, or None."""
    return None if spoilt is None else (spoilt.before, spoilt.pair)


class LackingPairTests(Checks):

    def test_all_rows_of_lots_of_three_places_in_any_order(self):
        picker = random.Random(47)
        lots = subsets(range(3))[1:]
        for row in subsets(lots):
            for closing in CLOSINGS:
                wanted = lacking_as_told(row, closing)
                passed = list(row) + picker.choices(row, k=2) if row else []
                picker.shuffle(passed)
                for given in (row, passed, tuple(passed)):
                    self.same(lacking_pair(given, closing), wanted[0] if wanted else None)

    def test_rows_of_lots_of_more_places(self):
        picker = random.Random(48)
        lots = subsets(range(7))[1:]
        for _ in range(300):
            row = picker.sample(lots, picker.randint(0, 6))
            for closing in CLOSINGS:
                wanted = lacking_as_told(row, closing)
                self.same(lacking_pair(row, closing), wanted[0] if wanted else None)

    def test_the_example(self):
        lots = ((0, 1), (0, 2), (1, 2))
        self.same(lacking_pair(lots, "joining"), ((0, 1), (0, 2), (0, 1, 2)))
        self.same(lacking_pair(lots, "sums"), None)
        self.same(lacking_pair(lots, "meets"), ((0, 1), (0, 2), (0,)))

    def test_lots_without_a_common_place_are_passed_over(self):
        self.same(lacking_pair(((0,), (1, 2)), "meets"), None)
        self.same(lacking_pair(((0,), (1, 2)), "sums"), ((0,), (1, 2), (0, 1, 2)))

    def test_fewer_than_two_lots_are_closed(self):
        for lots in ((), [], ((0, 1),), [(0, 1), (0, 1)]):
            for closing in CLOSINGS:
                self.same(lacking_pair(lots, closing), None)

    def test_wrong_closings(self):
        for thing in (None, "", "lesser", "Joining", "sum", 0, True, ["sums"], ("meets",), {}, b"sums"):
            for lots in ((), ((0,),), ((0,), (1,)), ((0,), (0, 1)), ((0, 1), (0, 2))):
                self.wrong(BadClosing, {}, lacking_pair, lots, thing)

    def test_nothing_is_changed(self):
        self.unchanged(lacking_pair, [(1, 2), (0, 2), (1, 2)], "meets")


class KeptByLotsTests(Checks):

    def test_it_is_kept_exactly_if_the_lots_are_closed_and_it_can_be_taken_over(self):
        for relation in SMALL + THREE:
            for deed in DEEDS:
                self.assertIs(kept_by_lots(relation, deed), is_kept(relation, deed))

    def test_by_all_linings(self):
        for relation in SMALL + THREE[::12] + thin_relations(4, 60, 2):
            for deed in DEEDS:
                self.assertIs(kept_by_lots(relation, deed), kept_as_told(relation, deed))

    def test_four_places(self):
        for deed in DEEDS:
            self.assertIs(kept_by_lots(full_relation(4), deed), True)
            self.assertIs(kept_by_lots(after_one_of(4), deed), True)
            self.assertIs(kept_by_lots(empty_relation(4), deed), True)
        for relation in thin_relations(4, 30, 3):
            for deed in DEEDS:
                self.assertIs(kept_by_lots(relation, deed), is_kept(relation, deed))

    def test_closed_lots_are_not_enough(self):
        found = 0
        for relation in RELATIONS:
            for deed in DEEDS:
                if spoilt_at(relation, deed) is None and not over_by_lots(relation):
                    found += 1
                    self.assertIs(kept_by_lots(relation, deed), False)
        self.assertGreater(found, 20)

    def test_the_example(self):
        self.assertEqual([kept_by_lots(two_first_relation(), deed) for deed in DEEDS], [False, True, False])

    def test_wrong_deeds(self):
        for thing in NO_DEEDS:
            for relation in (before_relation(), empty_relation(2), between_relation(), Relation(0, [()])):
                self.wrong(BadDeed, {}, kept_by_lots, relation, thing)
                self.wrong(BadDeed, {}, spoilt_at, relation, thing)


class SpoiltTests(Checks):

    def test_results_keep_what_they_are_given(self):
        deed, before, pair = [0], {}, "x"
        spoilt = SpoiltAt(deed, before, pair)
        self.assertIs(spoilt.deed, deed)
        self.assertIs(spoilt.before, before)
        self.assertIs(spoilt.pair, pair)
        self.assertEqual(vars(SpoiltAt(deed=1, before=2, pair=3)), {"deed": 1, "before": 2, "pair": 3})
        self.assertTrue(SpoiltAt(1, 2, 3) == SpoiltAt(1, 2, 3))
        for other in (SpoiltAt(0, 2, 3), SpoiltAt(1, 0, 3), SpoiltAt(1, 2, 0), (1, 2, 3), None, Broken(1, 2, 3)):
            self.assertFalse(SpoiltAt(1, 2, 3) == other)

    def test_the_first_spoilt_lots(self):
        for relation in RELATIONS:
            for deed in DEEDS:
                wanted = spoilt_as_told(relation, deed)
                got = spoilt_at(relation, deed)
                self.same(shown(got), wanted[0] if wanted else None)
                if got is not None:
                    self.assertEqual(got.deed, deed)
                    self.assertIs(type(got), SpoiltAt)

    def test_the_numbering_is_that_of_the_relation(self):
        relation = Relation(3, [(1, 0, 2), (2, 0, 1)])
        self.same(shown(spoilt_at(relation, "lesser")), (((1,),), ((0,), (2,), (0, 2))))
        self.same(shown(spoilt_at(relation, "odd")), (((1,),), ((0,), (2,), (0, 2))))
        self.assertIsNone(spoilt_at(relation, "common"))

    def test_equal_rests_behind_two_rows_of_lots(self):
        members = [(0, 0, 1, 2), (0, 0, 2, 1), (1, 0, 2, 3), (1, 0, 3, 2), (0, 1, 2, 3), (0, 1, 3, 2)]
        relation = Relation(4, members)
        self.same(shown(spoilt_at(relation, "lesser")), (((0,), (1,)), ((2,), (3,), (2, 3))))
        self.same(shown(spoilt_at(Relation(4, members[:4]), "lesser")), (((1,), (0,)), ((2,), (3,), (2, 3))))

    def test_without_members_or_places(self):
        for relation in [empty_relation(places) for places in range(5)] + [Relation(0, [()]), full_relation(1)]:
            for deed in DEEDS:
                self.assertIsNone(spoilt_at(relation, deed))
                self.assertIs(kept_by_lots(relation, deed), True)

    def test_every_spoilt_is_right_and_leads_out(self):
        for relation in SMALL + THREE[::9] + FOUR[:40]:
            for deed in DEEDS:
                for before, pair in spoilt_as_told(relation, deed):
                    self.check_leading_out(relation, deed, before, pair)

    def check_leading_out(self, relation, deed, before, pair):
        """This, its lots turned round, and its first two lots exchanged are right and lead out of the relation."""
        for given in (
                SpoiltAt(deed, before, pair), SpoiltAt(deed, before, (pair[1], pair[0], pair[2])),
                SpoiltAt(deed, [list(lot[::-1]) for lot in before], [list(lot[::-1]) for lot in pair])):
            self.assertIsNone(spoilt_fault(relation, given))
            broken = broken_from(relation, given)
            self.assertIs(type(broken), Broken)
            for lot, standing in ((given.pair[0], broken.one), (given.pair[1], broken.other)):
                beginning = before + (tuple(sorted(lot)),)
                self.same(standing, min(row for row in relation if layers(row)[:len(beginning)] == beginning))
            many = len(before) + 1
            ones, others = len(layers(broken.one)) - many, len(layers(broken.other)) - many
            self.same(broken.lining, (2,) * many + (0,) * ones + (1,) * others)
            self.assertNotIn(made_as_told(deed, broken.one, broken.other, broken.lining), relation.members)
            self.assertIsNone(broken_fault(relation, deed, broken))

    def test_the_example(self):
        spoilt = spoilt_at(two_first_relation(), "common")
        self.assertEqual(spoilt, SpoiltAt("common", (), ((0, 1), (0, 2), (0,))))
        self.assertEqual(broken_from(two_first_relation(), spoilt), Broken((0, 0, 1), (0, 1, 0), (2, 0, 1)))

    def test_nothing_is_changed(self):
        relation = Relation(3, [(1, 0, 2), (2, 0, 1)])
        self.unchanged(kept_by_lots, relation, "lesser")
        spoilt = SpoiltAt("lesser", [[1]], [[2], [0], [2, 0]])
        self.unchanged(spoilt_fault, relation, spoilt)
        broken_from(relation, spoilt)
        self.assertEqual(vars(spoilt), {"deed": "lesser", "before": [[1]], "pair": [[2], [0], [2, 0]]})


class SpoiltFaultTests(Checks):

    def word_as_told(self, relation, deed, before, pair):
        rows = {row: (left, rest) for row, left, rest in rows_as_told(relation)}
        if before not in rows:
            return "pair" if before in map(layers, relation.members) else "before"
        left, rest = rows[before]
        lots = [tuple(left[place] for place in layers(member)[0]) for member in rest.members]
        one, other, lacking = pair
        if one not in lots or other not in lots or one == other:
            return "pair"
        if lacking != combined_as_told(dict(zip(DEEDS, CLOSINGS))[deed], one, other) or not lacking:
            return "lacking"
        return "kept" if lacking in lots else None

    def test_all_pairs_of_small_relations(self):
        words = set()
        for relation in SMALL + [between_relation(), two_first_relation(), full_relation(3)] + THREE[700:702]:
            lots = subsets(range(relation.places))[1:]
            befores = [()] + [(lot,) for lot in lots]
            pairs = [(one, other, third) for one in lots for other in lots for third in [()] + lots]
            for deed in DEEDS:
                for before in befores:
                    for pair in pairs:
                        wanted = self.word_as_told(relation, deed, before, pair)
                        self.assertEqual(spoilt_fault(relation, SpoiltAt(deed, before, pair)), wanted)
                        words.add(wanted)
        self.assertEqual(words, {None, "before", "pair", "lacking", "kept"})

    def test_the_words_in_their_order(self):
        relation = full_relation(3)
        for thing in NO_DEEDS:
            self.assertEqual(spoilt_fault(relation, SpoiltAt(thing, None, None)), "deed")
        wrong_lots = NO_SEQUENCES + ((), (3,), (0, 0), (True,), ("0",), (0, 3))
        for thing in NO_SEQUENCES:
            self.assertEqual(spoilt_fault(relation, SpoiltAt("odd", thing, None)), "before")
        for thing in wrong_lots:
            self.assertEqual(spoilt_fault(relation, SpoiltAt("odd", [thing], None)), "before")
            self.assertEqual(spoilt_fault(relation, SpoiltAt("odd", (), (thing, (0,), None))), "pair")
            self.assertEqual(spoilt_fault(relation, SpoiltAt("odd", (), ((0,), thing, None))), "pair")
        for thing in NO_SEQUENCES + ((), ((0,), (1,)), ((0,), (1,), (0, 1), ()), ((0, 1), (1, 0), (0,))):
            self.assertEqual(spoilt_fault(relation, SpoiltAt("odd", (), thing)), "pair")
        for thing in wrong_lots + ((0,), (0, 1, 2), (0, 1, 0), (False, 1)):
            self.assertEqual(spoilt_fault(relation, SpoiltAt("odd", (), ((0,), (1,), thing))), "lacking")
        self.assertEqual(spoilt_fault(relation, SpoiltAt("odd", (), ((0,), (1,), (1, 0)))), "kept")

    def test_an_empty_meet_is_lacking(self):
        for thing in ((), [], (0,), None):
            self.assertEqual(spoilt_fault(unlike_relation(), SpoiltAt("common", (), ((0,), (1,), thing))), "lacking")

    def test_behind_all_places_the_word_is_pair(self):
        self.assertEqual(spoilt_fault(before_relation(), SpoiltAt("odd", ((0,), (1,)), ((0,), (1,), (0, 1)))), "pair")
        self.assertEqual(spoilt_fault(Relation(0, [()]), SpoiltAt("odd", (), ((0,), (1,), (0, 1)))), "pair")

    def test_broken_from_raises_the_word(self):
        relation = full_relation(2)
        for spoilt, word in (
                (SpoiltAt(None, None, None), "deed"), (SpoiltAt("odd", None, None), "before"),
                (SpoiltAt("odd", (), None), "pair"), (SpoiltAt("odd", (), ((0,), (1,), ())), "lacking"),
                (SpoiltAt("odd", (), ((0,), (1,), (0, 1))), "kept")):
            self.assertEqual(spoilt_fault(relation, spoilt), word)
            self.wrong(BadSpoilt, {"what": word}, broken_from, relation, spoilt)

    def test_the_pair_is_combined_by_the_closing_of_the_deed(self):
        relation = Relation(3, [(0, 0, 1), (1, 0, 0)])
        for deed, lacking in (("lesser", (0, 1, 2)), ("odd", (0, 2)), ("common", (1,))):
            for lot in subsets(range(3)):
                word = None if lot == lacking else "lacking"
                self.assertEqual(spoilt_fault(relation, SpoiltAt(deed, (), ((0, 1), (1, 2), lot))), word)
