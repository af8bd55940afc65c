"""Tests of [3.9] to [3.11]."""

from earliestlots.errors import BadDeed, TooMany
from earliestlots.keeps import (
    Broken, BrokenOver, broken_by, broken_fault, broken_over, grown_by, grown_fault, grown_over, grown_steps, is_kept,
    over_fault)
from earliestlots.named import (
    after_one_of, before_relation, between_relation, tied_relation, two_first_relation, unlike_relation,
    with_or_after_one_of)
from earliestlots.relations import Relation, empty_relation, full_relation
from tests.helper import (
    DEEDS, NO_DEEDS, NO_NUMBERS, NO_SEQUENCES, Checks, kept_as_told, linings_by_trying, made_as_told, over_as_told,
    small_relations, some_relations, standings_by_trying, subsets, thin_relations)


THREE = some_relations(3, 60) + thin_relations(3, 60, 3) + [between_relation(), two_first_relation(), full_relation(3)]
FEW_PLACES = small_relations() + THREE


def broken_as_told(relation, deed):
    """All (one, other, lining) of members along which the deed makes no member, ascending."""
    return [
        (one, other, lining) for one in relation.members for other in relation.members
        for lining in linings_by_trying(len(set(one)), len(set(other)))
        if made_as_told(deed, one, other, lining) not in relation.members]


def over_broken_as_told(relation):
    """All (one, cut, other) of members at which the result is no member, ascending."""
    return [
        (one, cut, other) for one in relation.members for cut in range(len(set(one)) + 1) for other in relation.members
        if over_as_told(one, cut, other) not in relation.members]


class ResultTests(Checks):

    def test_broken_keeps_what_it_is_given(self):
        one, other, lining = [0], {}, "x"
        broken = Broken(one, other, lining)
        self.assertIs(broken.one, one)
        self.assertIs(broken.other, other)
        self.assertIs(broken.lining, lining)
        self.assertEqual(vars(Broken(one=1, other=2, lining=3)), {"one": 1, "other": 2, "lining": 3})

    def test_broken_over_keeps_what_it_is_given(self):
        one, cut, other = [0], "x", {}
        broken = BrokenOver(one, cut, other)
        self.assertIs(broken.one, one)
        self.assertIs(broken.cut, cut)
        self.assertIs(broken.other, other)
        self.assertEqual(vars(BrokenOver(one=1, cut=2, other=3)), {"one": 1, "cut": 2, "other": 3})

    def test_equal_by_class_and_all_attributes(self):
        for made in (Broken, BrokenOver):
            self.assertTrue(made(1, 2, 3) == made(1, 2, 3))
            for others in ((0, 2, 3), (1, 0, 3), (1, 2, 0)):
                self.assertFalse(made(1, 2, 3) == made(others[0], others[1], others[2]))
            for thing in ((1, 2, 3), [1, 2, 3], None, 1, "x"):
                self.assertFalse(made(1, 2, 3) == thing)
        self.assertFalse(Broken(1, 2, 3) == BrokenOver(1, 2, 3))
        self.assertFalse(BrokenOver(1, 2, 3) == Broken(1, 2, 3))
        self.assertFalse(Broken((0, 1), (0, 1), (2, 2)) == Broken([0, 1], (0, 1), (2, 2)))


class KeptTests(Checks):

    def check_broken(self, relation, deed):
        broken = broken_by(relation, deed)
        wanted = broken_as_told(relation, deed)
        self.assertIs(is_kept(relation, deed), not wanted)
        if not wanted:
            self.assertIsNone(broken)
            return
        self.assertIs(type(broken), Broken)
        self.same((broken.one, broken.other, broken.lining), min(wanted))
        self.assertIsNone(broken_fault(relation, deed, broken))

    def test_the_first_broken(self):
        for relation in FEW_PLACES:
            for deed in DEEDS:
                self.check_broken(relation, deed)

    def test_thin_relations_of_four_places(self):
        for relation in thin_relations(4, 12, 2):
            for deed in DEEDS:
                self.check_broken(relation, deed)

    def test_four_places(self):
        self.assertIs(is_kept(full_relation(4), "odd"), True)
        self.assertIs(is_kept(empty_relation(4), "common"), True)
        self.assertIsNone(broken_by(with_or_after_one_of(4), "lesser"))
        for deed in ("odd", "common"):
            relation = with_or_after_one_of(4)
            broken = broken_by(relation, deed)
            self.assertIsNone(broken_fault(relation, deed, broken))
            self.assertIs(is_kept(relation, deed), False)

    def test_no_members(self):
        for places in range(5):
            self.assertIsNone(broken_over(empty_relation(places)))
            for deed in DEEDS:
                self.assertIs(is_kept(empty_relation(places), deed), True)

    def test_wrong_deeds(self):
        for thing in NO_DEEDS:
            for relation in (before_relation(), empty_relation(2)):
                self.wrong(BadDeed, {}, is_kept, relation, thing)
                self.wrong(BadDeed, {}, broken_by, relation, thing)

    def test_the_first_broken_over(self):
        for relation in FEW_PLACES + thin_relations(4, 40, 3):
            broken = broken_over(relation)
            wanted = over_broken_as_told(relation)
            if not wanted:
                self.assertIsNone(broken)
            else:
                self.assertIs(type(broken), BrokenOver)
                self.same((broken.one, broken.cut, broken.other), min(wanted))
                self.assertIsNone(over_fault(relation, broken))

    def test_what_a_deed_keeps_can_be_taken_over(self):
        found = 0
        for relation in FEW_PLACES + thin_relations(4, 40, 2):
            for deed in DEEDS:
                if is_kept(relation, deed):
                    found += 1
                    self.assertIsNone(broken_over(relation))
        self.assertGreater(found, 60)

    def test_between(self):
        self.assertEqual(broken_over(between_relation()), BrokenOver((0, 1, 2), 1, (2, 1, 0)))
        self.assertEqual(broken_by(unlike_relation(), "lesser"), Broken((0, 1), (1, 0), (2, 0, 1)))


class FaultTests(Checks):

    def test_broken_fault_over_all_small_couples(self):
        for relation in small_relations() + [between_relation()]:
            for deed in DEEDS:
                wrong = broken_as_told(relation, deed)
                for one in standings_by_trying(relation.places):
                    for other in standings_by_trying(relation.places):
                        for lining in linings_by_trying(len(set(one)), len(set(other))):
                            word = "one" if one not in relation.members else "other"
                            if one in relation.members and other in relation.members:
                                word = None if (one, other, lining) in wrong else "made"
                            for broken in (Broken(one, other, lining), Broken(list(one), list(other), list(lining))):
                                self.assertEqual(broken_fault(relation, deed, broken), word)

    def test_the_words_of_broken_fault_in_their_order(self):
        relation = unlike_relation()
        right = ((0, 1), (1, 0), (2, 2))
        self.assertIsNone(broken_fault(relation, "lesser", Broken((0, 1), (1, 0), (2, 2))))
        self.assertIsNone(broken_fault(relation, "lesser", Broken([0, 1], [1, 0], [2, 2])))
        no_members = NO_SEQUENCES + ((), (0,), (0, 0), (0, 2), (0, "x"), [[0], 1], (0, 1, 2))
        for thing in no_members:
            self.assertEqual(broken_fault(relation, "lesser", Broken(thing, None, None)), "one")
            self.assertEqual(broken_fault(relation, "lesser", Broken(right[0], thing, None)), "other")
        for thing in NO_SEQUENCES + ((), (2,), (2, 0), (2, 2, 2), (2, True), (2, "2"), (0, 0, 0), (3, 3)):
            self.assertEqual(broken_fault(relation, "lesser", Broken(right[0], right[1], thing)), "lining")
        self.assertEqual(broken_fault(relation, "lesser", Broken((0, 1), (1, 0), (0, 0, 1, 1))), "made")
        self.assertEqual(broken_fault(relation, "common", Broken((0, 1), (1, 0), (2, 2))), "made")
        self.assertEqual(broken_fault(empty_relation(2), "lesser", Broken((0, 1), (1, 0), (2, 2))), "one")
        for thing in NO_DEEDS:
            self.wrong(BadDeed, {}, broken_fault, relation, thing, Broken(None, None, None))

    def test_over_fault_over_all_small_couples(self):
        for relation in small_relations() + [between_relation()]:
            wrong = over_broken_as_told(relation)
            for one in standings_by_trying(relation.places):
                for cut in range(len(set(one)) + 1):
                    for other in standings_by_trying(relation.places):
                        word = "one" if one not in relation.members else "other"
                        if one in relation.members and other in relation.members:
                            word = None if (one, cut, other) in wrong else "made"
                        self.assertEqual(over_fault(relation, BrokenOver(one, cut, other)), word)
                        self.assertEqual(over_fault(relation, BrokenOver(list(one), cut, list(other))), word)

    def test_the_words_of_over_fault_in_their_order(self):
        relation = between_relation()
        self.assertIsNone(over_fault(relation, BrokenOver([0, 1, 2], 1, [2, 1, 0])))
        for thing in NO_SEQUENCES + ((), (0, 1), (0, 0, 0), (0, 1, "2")):
            self.assertEqual(over_fault(relation, BrokenOver(thing, None, None)), "one")
            self.assertEqual(over_fault(relation, BrokenOver((0, 1, 2), 1, thing)), "other")
        for thing in NO_NUMBERS + (4,):
            self.assertEqual(over_fault(relation, BrokenOver((0, 1, 2), thing, None)), "cut")
        for cut in (0, 3):
            self.assertEqual(over_fault(relation, BrokenOver((0, 1, 2), cut, (2, 1, 0))), "made")

    def test_nothing_is_changed(self):
        broken = Broken([0, 1], [1, 0], [2, 2])
        broken_fault(unlike_relation(), "lesser", broken)
        self.assertEqual(vars(broken), {"one": [0, 1], "other": [1, 0], "lining": [2, 2]})
        broken = BrokenOver([0, 1, 2], 1, [2, 1, 0])
        over_fault(between_relation(), broken)
        self.assertEqual(vars(broken), {"one": [0, 1, 2], "cut": 1, "other": [2, 1, 0]})


def grown_as_told(relation, results):
    """The members and all that comes of them by the results of couples."""
    members = set(relation.members)
    while True:
        fresh = {made for one in members for other in members for made in results(one, other)} - members
        if not fresh:
            return Relation(relation.places, sorted(members))
        members |= fresh


def all_results(deed, one, other):
    return [made_as_told(deed, one, other, lining) for lining in linings_by_trying(len(set(one)), len(set(other)))]


class GrownTests(Checks):

    RELATIONS = small_relations() + thin_relations(3, 14, 3) + some_relations(3, 6) + [
        between_relation(), two_first_relation(), after_one_of(3), empty_relation(3), full_relation(3)]

    def test_the_least_kept_relation(self):
        for relation in self.RELATIONS:
            for deed in DEEDS:
                grown = grown_by(relation, deed)
                self.assertEqual(grown, grown_as_told(relation, lambda one, other: all_results(deed, one, other)))
                self.assertTrue(is_kept(grown, deed))
                self.assertEqual(grown == relation, is_kept(relation, deed))

    def test_it_lies_in_every_other_such_relation(self):
        for relation in small_relations():
            standings = standings_by_trying(relation.places)
            wider = [Relation(relation.places, row) for row in subsets(standings) if set(relation.members) <= set(row)]
            for deed in DEEDS:
                grown = grown_by(relation, deed)
                for other in wider:
                    if kept_as_told(other, deed):
                        self.assertTrue(set(grown.members) <= set(other.members))
            grown = grown_over(relation)
            for other in wider:
                if not over_broken_as_told(other):
                    self.assertTrue(set(grown.members) <= set(other.members))

    def test_the_least_that_can_be_taken_over(self):
        def overs(one, other):
            return [over_as_told(one, cut, other) for cut in range(len(set(one)) + 1)]
        for relation in self.RELATIONS + thin_relations(3, 40, 3):
            grown = grown_over(relation)
            self.assertEqual(grown, grown_as_told(relation, overs))
            self.assertIsNone(broken_over(grown))

    def test_steps_are_right(self):
        for relation in self.RELATIONS:
            for deed in DEEDS:
                steps = grown_steps(relation, deed)
                self.same(steps, grown_steps(relation, deed))
                known = list(relation.members)
                for one, other, lining, standing in steps:
                    self.assertIn(one, known)
                    self.assertIn(other, known)
                    self.same(standing, made_as_told(deed, one, other, lining))
                    self.assertNotIn(standing, known)
                    known.append(standing)
                self.assertEqual(Relation(relation.places, known), grown_by(relation, deed))
                self.same(steps, tuple(tuple(map(tuple, step)) for step in steps))
                self.assertIsNone(grown_fault(relation, deed, steps))
                self.assertEqual(steps == (), is_kept(relation, deed))

    def test_errors(self):
        for places in (2, 4):
            relation = empty_relation(places)
            for thing in NO_DEEDS:
                self.wrong(BadDeed, {}, grown_by, relation, thing)
                self.wrong(BadDeed, {}, grown_steps, relation, thing)
                self.wrong(BadDeed, {}, grown_fault, relation, thing, None)
        for relation in (empty_relation(4), full_relation(4)):
            self.wrong(TooMany, {"most": 3}, grown_over, relation)
            for deed in DEEDS:
                self.wrong(TooMany, {"most": 3}, grown_by, relation, deed)
                self.wrong(TooMany, {"most": 3}, grown_steps, relation, deed)
                self.wrong(TooMany, {"most": 3}, grown_fault, relation, deed, None)


class GrownFaultTests(Checks):

    # Lesser makes (0, 0) of the two members, along (2, 2).
    STEP = ((0, 1), (1, 0), (2, 2), (0, 0))

    def fault(self, steps, relation=None):
        return grown_fault(unlike_relation() if relation is None else relation, "lesser", steps)

    def test_right_steps(self):
        self.assertIsNone(self.fault((self.STEP,)))
        self.assertIsNone(self.fault([[[0, 1], [1, 0], [2, 2], (0, 0)]]))
        self.assertIsNone(self.fault((), tied_relation()))
        self.assertIsNone(self.fault([], empty_relation(2)))
        self.assertIsNone(self.fault((), Relation(0, [()])))

    def test_steps_and_step(self):
        for thing in NO_SEQUENCES:
            self.assertEqual(self.fault(thing), "steps")
        for thing in NO_SEQUENCES + ((), self.STEP[:3], self.STEP + (0,)):
            self.assertEqual(self.fault((self.STEP, thing)), "step")
            self.assertEqual(self.fault((thing, self.STEP)), "step")

    def test_one_and_other(self):
        for thing in NO_SEQUENCES + ((0, 0), (), (0,), (0, 2), (0, "1"), ([0], 1), (False, True), (0.0, 1.0)):
            self.assertEqual(self.fault(((thing, None, None, None),)), "one")
            self.assertEqual(self.fault((((0, 1), thing, None, None),)), "other")

    def test_lining(self):
        for thing in NO_SEQUENCES + ((), (2,), (2, True), (2, 2, 2), (0, 0), (2, 3)):
            self.assertEqual(self.fault((((0, 1), (1, 0), thing, None),)), "lining")

    def test_made(self):
        for thing in NO_SEQUENCES + ([0, 0], (0, 1), (), (0, False), (0.0, 0.0), (0, 0, 0)):
            self.assertEqual(self.fault((((0, 1), (1, 0), (2, 2), thing),)), "made")

    def test_known(self):
        self.assertEqual(self.fault((((0, 1), (1, 0), (0, 0, 1, 1), (0, 1)),)), "known")
        self.assertEqual(self.fault((self.STEP, self.STEP)), "known")
        self.assertEqual(self.fault((self.STEP, ((0, 0), [0, 0], (2,), (0, 0)))), "known")

    def test_kept(self):
        self.assertEqual(self.fault(()), "kept")
        relation = between_relation()
        for deed in DEEDS:
            steps = grown_steps(relation, deed)
            for many in range(len(steps)):
                self.assertEqual(grown_fault(relation, deed, steps[:many]), "kept")

    def test_standings_of_earlier_steps_may_be_used_and_others_not(self):
        found = {"one": 0, "other": 0}
        for relation in thin_relations(3, 25, 3):
            for deed in ("lesser", "odd"):
                steps = grown_steps(relation, deed)
                # These two deeds make the same of other and one with 0 and 1 exchanged.
                turned = tuple((other, one, tuple((1, 0, 2)[entry] for entry in lining), standing)
                               for one, other, lining, standing in steps)
                self.assertIsNone(grown_fault(relation, deed, turned))
                for step in steps + turned:
                    word = "one" if step[0] not in relation.members else "other"
                    if step[0] not in relation.members or step[1] not in relation.members:
                        found[word] += 1
                        self.assertEqual(grown_fault(relation, deed, (step,) + steps), word)
        self.assertGreater(min(found.values()), 0)

    def test_the_first_wrong_step_counts(self):
        wrong = ((0, 1), (1, 0), (2,), (0, 0))
        self.assertEqual(self.fault((self.STEP, wrong, None)), "lining")
        self.assertEqual(self.fault((self.STEP, None, wrong)), "step")

    def test_nothing_is_changed(self):
        steps = [[[0, 1], [1, 0], [2, 2], (0, 0)]]
        self.fault(steps)
        self.assertEqual(steps, [[[0, 1], [1, 0], [2, 2], (0, 0)]])
