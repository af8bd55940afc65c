"""Tests of [3.6] to [3.8] and [3.12]."""

import random
from itertools import permutations

from earliestlots.deeds import all_made, check_deed, lining_for, made_by, over_lining, taken_over
from earliestlots.errors import BadCut, BadDeed, BadLining, BadStanding, OtherPlaces, TooMany
from earliestlots.linings import cut_lining, lining_of, moments_of
from earliestlots.standings import cut_down, standing_of
from tests.helper import (
    DEEDS, NO_DEEDS, NO_NUMBERS, NO_SEQUENCES, NO_STANDINGS, Checks, couples, lined_couples, linings_by_trying,
    made_as_told, over_as_told, standings_by_trying)

SEVEN = (tuple(range(7)), (6, 5, 4, 3, 2, 1, 0), (0, 2, 1, 2, 0, 3, 1))


class DeedTests(Checks):

    def test_check_deed(self):
        for deed in DEEDS:
            self.same(check_deed(deed), deed)
        for thing in NO_DEEDS:
            self.wrong(BadDeed, {}, check_deed, thing)


class MadeByTests(Checks):

    def test_the_example(self):
        self.same(moments_of((0, 1), (1, 0), (2, 2)), ((0, 1), (1, 0)))
        self.same(made_by("lesser", (0, 1), (1, 0), (2, 2)), (0, 0))
        self.same(made_by("odd", (0, 1), (1, 0), (2, 2)), (0, 0))
        self.same(made_by("common", (0, 1), (1, 0), (2, 2)), (1, 0))

    def test_all_small_standings_and_linings(self):
        for one, other, lining in lined_couples(3):
            for deed in DEEDS:
                wanted = made_as_told(deed, one, other, lining)
                self.same(made_by(deed, one, other, lining), wanted)

    def test_some_of_seven_places(self):
        for one in SEVEN:
            for other in SEVEN:
                first, second = len(set(one)), len(set(other))
                for lining in ((0,) * first + (1,) * second, (2,) * min(first, second) + (0,) * (first - second)
                               + (1,) * (second - first), (1,) * (second - 1) + (2,) + (0,) * (first - 1)):
                    for deed in DEEDS:
                        self.same(made_by(deed, list(one), list(other), list(lining)),
                                  made_as_told(deed, one, other, lining))

    def test_a_standing_lined_with_itself_makes_itself(self):
        for one in [ranks for places in range(5) for ranks in standings_by_trying(places)]:
            for deed in DEEDS:
                self.same(made_by(deed, one, one, (2,) * len(set(one))), one)

    def test_exchanged(self):
        exchanged = {0: 1, 1: 0, 2: 2}
        unlike = False
        for one, other, lining in lined_couples(3):
            turned = [exchanged[entry] for entry in lining]
            for deed in ("lesser", "odd"):
                self.same(made_by(deed, other, one, turned), made_by(deed, one, other, lining))
            unlike = unlike or made_by("common", other, one, turned) != made_by("common", one, other, lining)
        self.assertTrue(unlike)

    def test_cutting_down_what_is_made(self):
        for one, other, lining in lined_couples(3):
            for size in range(len(one) + 1):
                for places in permutations(range(len(one)), size):
                    cut = cut_lining(one, other, lining, places)
                    for deed in DEEDS:
                        self.same(cut_down(made_by(deed, one, other, lining), places),
                                  made_by(deed, cut_down(one, places), cut_down(other, places), cut))

    def test_lesser_makes_the_lesser_numbers(self):
        picker = random.Random(36)
        for _ in range(300):
            size = picker.randint(0, 7)
            numbers = [picker.randint(-3, 5) for _ in range(size)]
            others = [picker.randint(-3, 5) for _ in range(size)]
            made = made_by("lesser", standing_of(numbers), standing_of(others), lining_of(numbers, others))
            self.same(made, standing_of([min(couple) for couple in zip(numbers, others)]))

    def test_errors_in_their_order(self):
        for thing in NO_DEEDS:
            self.wrong(BadDeed, {}, made_by, thing, None, None, None)
        for deed in DEEDS:
            for ranks, index in NO_STANDINGS:
                self.wrong(BadStanding, {"index": index}, made_by, deed, ranks, None, None)
                self.wrong(BadStanding, {"index": index}, made_by, deed, (0, 1), ranks, None)
            self.wrong(OtherPlaces, {}, made_by, deed, (0,), (0, 1), None)
            for thing in NO_SEQUENCES + ((), (2,), (2, 0)):
                self.wrong(BadLining, {"index": -1}, made_by, deed, (0, 1), (0, 1), thing)
            for thing in NO_NUMBERS + (3,):
                self.wrong(BadLining, {"index": 1}, made_by, deed, (0, 1), (0, 1), (2, thing))
            self.unchanged(made_by, deed, [0, 1], [1, 0], [2, 2])


class TakenOverTests(Checks):

    def test_the_example(self):
        self.same(taken_over((0, 1, 2), 1, (2, 1, 0)), (0, 2, 1))
        self.same(over_lining((0, 1, 2), 1, (2, 1, 0)), (0, 1, 1, 1, 0, 0))

    def test_all_small_standings_and_cuts(self):
        for one, other in couples(4):
            many = len(set(one))
            self.same(taken_over(one, 0, other), other)
            self.same(taken_over(list(one), many, list(other)), one)
            for cut in range(many + 1):
                self.same(taken_over(one, cut, other), over_as_told(one, cut, other))

    def test_each_deed_makes_it_along_the_over_lining(self):
        for one, other in couples(3) + [(one, other) for one in SEVEN for other in SEVEN]:
            first, second = len(set(one)), len(set(other))
            for cut in range(first + 1):
                lining = over_lining(list(one), cut, list(other))
                self.same(lining, (0,) * cut + (1,) * second + (0,) * (first - cut))
                for deed in DEEDS:
                    self.same(made_by(deed, one, other, lining), taken_over(one, cut, other))

    def test_no_places(self):
        self.same(taken_over((), 0, []), ())
        self.same(over_lining([], 0, ()), ())

    def test_errors_in_their_order(self):
        for call in (taken_over, over_lining):
            for ranks, index in NO_STANDINGS:
                self.wrong(BadStanding, {"index": index}, call, ranks, None, None)
                self.wrong(BadStanding, {"index": index}, call, (0, 1), 2, ranks)
            for thing in NO_NUMBERS + (3,):
                self.wrong(BadCut, {}, call, (0, 1), thing, None)
            self.wrong(BadCut, {}, call, (0, 0), 2, (0, 1))
            self.wrong(BadCut, {}, call, (), 1, (0, 1))
            self.wrong(OtherPlaces, {}, call, (0, 1), 2, (0,))
            self.wrong(OtherPlaces, {}, call, (), 0, (0,))
            self.unchanged(call, [0, 1], 1, [1, 0])


class AllMadeTests(Checks):

    def test_all_small_couples(self):
        for one, other in couples(3):
            linings = linings_by_trying(len(set(one)), len(set(other)))
            for deed in DEEDS:
                made = [(made_as_told(deed, one, other, lining), lining) for lining in linings]
                self.same(all_made(deed, list(one), list(other)), tuple(sorted({standing for standing, _ in made})))
                for wanted in standings_by_trying(len(one)):
                    first = min([lining for standing, lining in made if standing == wanted], default=None)
                    self.same(lining_for(deed, one, other, list(wanted)), first)

    def test_four_places(self):
        for one, other in (((0, 1, 2, 3), (3, 2, 1, 0)), ((0, 0, 1, 2), (2, 1, 0, 0)), ((0, 1, 0, 1), (1, 1, 0, 2))):
            linings = linings_by_trying(len(set(one)), len(set(other)))
            for deed in DEEDS:
                made = {made_as_told(deed, one, other, lining) for lining in linings}
                self.same(all_made(deed, one, other), tuple(sorted(made)))
                for wanted in made:
                    lining = lining_for(deed, one, other, wanted)
                    self.same(made_by(deed, one, other, lining), wanted)
                    self.assertEqual(lining, min(
                        row for row in linings if made_as_told(deed, one, other, row) == wanted))

    def test_no_places(self):
        for deed in DEEDS:
            self.same(all_made(deed, (), []), ((),))
            self.same(lining_for(deed, (), (), []), ())

    def test_errors_in_their_order(self):
        for thing in NO_DEEDS:
            self.wrong(BadDeed, {}, all_made, thing, None, None)
            self.wrong(BadDeed, {}, lining_for, thing, None, None, None)
        for ranks, index in NO_STANDINGS:
            self.wrong(BadStanding, {"index": index}, all_made, "odd", ranks, None)
            self.wrong(BadStanding, {"index": index}, all_made, "odd", (0, 1), ranks)
            self.wrong(BadStanding, {"index": index}, lining_for, "odd", ranks, None, None)
            self.wrong(BadStanding, {"index": index}, lining_for, "odd", (0,), ranks, None)
            self.wrong(BadStanding, {"index": index}, lining_for, "odd", (0,), (0, 1), ranks)
        five = (0, 1, 2, 3, 4)
        self.wrong(OtherPlaces, {}, all_made, "odd", five, (0, 1))
        self.wrong(OtherPlaces, {}, lining_for, "odd", (0, 1), (0,), (0, 1))
        self.wrong(OtherPlaces, {}, lining_for, "odd", (0, 1), (0, 1), (0,))
        self.wrong(OtherPlaces, {}, lining_for, "odd", five, five, (0,))
        self.wrong(TooMany, {"most": 4}, all_made, "odd", five, five)
        self.wrong(TooMany, {"most": 4}, lining_for, "odd", SEVEN[0], SEVEN[1], SEVEN[2])
        self.unchanged(all_made, "common", [0, 1], [1, 0])
        self.unchanged(lining_for, "common", [0, 1], [1, 0], [1, 0])
