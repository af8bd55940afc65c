"""Tests of [3.1] to [3.5]."""

import random
from itertools import combinations, product

from earliestlots.errors import BadCount, BadLining, BadPlaces, BadStanding, OtherPlaces
from earliestlots.linings import all_linings, check_lining, count_linings, cut_lining, lining_of, moments_of
from earliestlots.standings import cut_down, standing_of
from tests.helper import (
    NO_NUMBERS, NO_SEQUENCES, NO_STANDINGS, Checks, couples, lined_couples, linings_by_trying)


class AllLiningsTests(Checks):

    def test_all_linings_ascending(self):
        self.same(list(all_linings(0, 0)), [()])
        self.same(list(all_linings(1, 1)), [(0, 1), (1, 0), (2,)])
        self.same(list(all_linings(0, 3)), [(1, 1, 1)])
        self.same(list(all_linings(5, 0)), [(0, 0, 0, 0, 0)])
        for first in range(6):
            for second in range(6):
                self.same(list(all_linings(first, second)), linings_by_trying(first, second))

    def test_all_rows_of_a_few_entries(self):
        for first, second in ((2, 2), (1, 3), (3, 2)):
            found = [row for size in range(first + second + 1) for row in product((0, 1, 2), repeat=size)
                     if row.count(0) + row.count(2) == first and row.count(1) + row.count(2) == second]
            self.same(list(all_linings(first, second)), sorted(found))

    def test_wrong_counts(self):
        for thing in NO_NUMBERS + (6, 41):
            self.wrong(BadCount, {"what": "first"}, lambda: next(all_linings(thing, 1)))
            self.wrong(BadCount, {"what": "first"}, lambda: next(all_linings(thing, thing)))
            self.wrong(BadCount, {"what": "second"}, lambda: next(all_linings(5, thing)))
            self.wrong(BadCount, {"what": "second"}, lambda: next(all_linings(0, thing)))

    def test_it_is_a_generator(self):
        linings = all_linings(2, 1)
        self.same(next(linings), (0, 0, 1))
        self.same(next(linings), (0, 1, 0))


class CountLiningsTests(Checks):

    def test_as_many_as_are_listed(self):
        for first in range(6):
            for second in range(6):
                self.same(count_linings(first, second), len(linings_by_trying(first, second)))

    def test_each_number_is_the_sum_of_three(self):
        table = {(first, second): count_linings(first, second) for first in range(41) for second in range(41)}
        for first, second in table:
            if first == 0 or second == 0:
                self.same(table[first, second], 1)
            else:
                wanted = table[first - 1, second] + table[first, second - 1] + table[first - 1, second - 1]
                self.same(table[first, second], wanted)

    def test_wrong_counts(self):
        for thing in NO_NUMBERS + (41, 10 ** 9):
            self.wrong(BadCount, {"what": "first"}, count_linings, thing, 1)
            self.wrong(BadCount, {"what": "first"}, count_linings, thing, thing)
            self.wrong(BadCount, {"what": "second"}, count_linings, 40, thing)


class CheckLiningTests(Checks):

    def test_just_the_linings_pass(self):
        for one, other in couples(2) + [((0, 1, 2), (0, 0, 1)), ((0, 1, 0), (0, 0, 0))]:
            right = linings_by_trying(len(set(one)), len(set(other)))
            most = len(set(one)) + len(set(other)) + 1
            for row in [row for size in range(most + 1) for row in product((0, 1, 2), repeat=size)]:
                if row in right:
                    self.same(check_lining(list(one), other, list(row)), row)
                    continue
                index = -1
                for at, _ in enumerate(row):
                    begun = row[:at + 1]
                    if (begun.count(0) + begun.count(2) > len(set(one))
                            or begun.count(1) + begun.count(2) > len(set(other))):
                        index = at
                        break
                self.wrong(BadLining, {"index": index}, check_lining, one, other, row)

    def test_wrong_entries(self):
        for thing in NO_NUMBERS + (3, 4):
            self.wrong(BadLining, {"index": 1}, check_lining, (0, 1), (0, 1), (2, thing))
            self.wrong(BadLining, {"index": 1}, check_lining, (0, 1), (0, 1), (2, thing, 2, 2))
        for thing in NO_SEQUENCES:
            self.wrong(BadLining, {"index": -1}, check_lining, (0, 1), (0, 1), thing)
        self.wrong(BadLining, {"index": 0}, check_lining, (), (), (0,))
        self.wrong(BadLining, {"index": 2}, check_lining, (0,), (0,), (0, 1, 2))
        self.wrong(BadLining, {"index": 1}, check_lining, (0,), (0,), (0, 2))
        self.wrong(BadLining, {"index": 1}, check_lining, (0,), (0,), (1, 2, None))
        self.wrong(BadLining, {"index": -1}, check_lining, (0, 1), (0, 1), (2, 0))
        self.wrong(BadLining, {"index": -1}, check_lining, (0, 1), (0, 1), (2, 1))

    def test_wrong_standings_come_first(self):
        for call in (check_lining, moments_of, lambda one, other, lining: cut_lining(one, other, lining, None)):
            for ranks, index in NO_STANDINGS:
                self.wrong(BadStanding, {"index": index}, call, ranks, None, None)
                self.wrong(BadStanding, {"index": index}, call, (0, 1), ranks, None)
            self.wrong(OtherPlaces, {}, call, (0,), (0, 1), None)
            self.wrong(OtherPlaces, {}, call, (0, 1, 2), (0, 1), (2, 2, 0))
            self.wrong(BadLining, {"index": -1}, call, (0,), (0,), None)

    def test_seven_places(self):
        one, other = tuple(range(7)), (6, 5, 4, 3, 2, 1, 0)
        for lining in ((2,) * 7, (0,) * 7 + (1,) * 7, (1, 0) * 7, (1,) * 6 + (2,) + (0,) * 6):
            self.same(check_lining(one, other, list(lining)), lining)

    def test_nothing_is_changed(self):
        self.unchanged(check_lining, [0, 1], [1, 0], [2, 0, 1])


class MomentsTests(Checks):

    def test_some_moments(self):
        self.same(moments_of((), (), ()), ((), ()))
        self.same(moments_of([0, 1], [1, 0], [2, 2]), ((0, 1), (1, 0)))
        self.same(moments_of((0, 1, 1), (0, 0, 1), (0, 1, 2)), ((0, 2, 2), (1, 1, 2)))
        self.unchanged(moments_of, [0, 1], [1, 0], [2, 0, 1])

    def test_all_small_moments(self):
        for one, other, lining in lined_couples(3):
            firsts = [moment for moment, entry in enumerate(lining) if entry in (0, 2)]
            seconds = [moment for moment, entry in enumerate(lining) if entry in (1, 2)]
            wanted = (tuple(firsts[rank] for rank in one), tuple(seconds[rank] for rank in other))
            self.same(moments_of(one, other, lining), wanted)
            self.same(lining_of(wanted[0], wanted[1]), lining)


class LiningOfTests(Checks):

    def test_some_numbers(self):
        self.same(lining_of((), []), ())
        self.same(lining_of([5, 5], [7, 5]), (2, 1))
        self.same(lining_of((10 ** 30, -4), (-5, 10 ** 30)), (1, 0, 2))
        self.same(lining_of(tuple(range(60)), [0] * 60), (2,) + (0,) * 59)
        self.same(lining_of([0] * 60, list(range(0, 60))), (2,) + (1,) * 59)
        self.unchanged(lining_of, [5, 5], [7, 5])

    def test_it_is_a_lining_of_the_standings(self):
        picker = random.Random(34)
        for _ in range(300):
            size = picker.randint(0, 7)
            numbers = [picker.randint(-3, 4) for _ in range(size)]
            others = [picker.randint(-3, 4) for _ in range(size)]
            lining = lining_of(numbers, others)
            unlike = sorted(set(numbers + others))
            wanted = tuple(2 if n in numbers and n in others else 0 if n in numbers else 1 for n in unlike)
            self.same(lining, wanted)
            self.same(check_lining(standing_of(numbers), standing_of(others), lining), lining)

    def test_other_places(self):
        for numbers, others in (((), (1,)), ([1], []), ((1, 2), (1, 2, 3)), ((0,) * 60, (0,) * 59)):
            self.wrong(OtherPlaces, {}, lining_of, numbers, others)
        for thing in NO_SEQUENCES:
            self.wrong(OtherPlaces, {}, lining_of, thing, (0,))
            self.wrong(OtherPlaces, {}, lining_of, [0], thing)


class CutLiningTests(Checks):

    def test_the_ranks_still_there_come_as_before(self):
        for one, other, lining in lined_couples(3):
            for size in range(len(one) + 1):
                for places in combinations(range(len(one)), size):
                    firsts, seconds = moments_of(one, other, lining)
                    wanted = lining_of([firsts[place] for place in places], [seconds[place] for place in places])
                    got = cut_lining(list(one), list(other), list(lining), list(places))
                    self.same(got, wanted)
                    self.same(check_lining(cut_down(one, places), cut_down(other, places), got), got)

    def test_some_cuts(self):
        self.same(cut_lining((0, 1, 2), (0, 1, 2), (0, 1, 2, 0, 1), (2, 0)), (0, 1, 0, 1))
        self.same(cut_lining((0, 1, 2), (0, 0, 0), (0, 2, 0), (1,)), (2,))
        self.same(cut_lining((0, 1), (1, 0), (2, 2), ()), ())

    def test_wrong_places(self):
        for thing in NO_SEQUENCES:
            self.wrong(BadPlaces, {"index": -1}, cut_lining, (0, 1), (1, 0), (2, 2), thing)
        for thing in NO_NUMBERS + (2, 0):
            self.wrong(BadPlaces, {"index": 1}, cut_lining, (0, 1), (1, 0), (2, 2), (0, thing))
        self.wrong(BadLining, {"index": -1}, cut_lining, (0, 1), (1, 0), (2,), (9,))
        self.unchanged(cut_lining, [0, 1], [1, 0], [2, 2], [1])
