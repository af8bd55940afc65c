"""Tests of [1.7]."""

from earliestlots.countings import (
    all_standings, choose_of, count_standings, number_of_standing, power_of, standing_of_number)
from earliestlots.errors import BadCount, BadNumber, BadStanding
from math import comb
from tests.helper import NO_NUMBERS, Checks, standings_by_trying


def counted(places):
    """How many standings of so many places there are, by taking first layers of each size."""
    table = [1]
    for many in range(1, places + 1):
        table.append(sum(comb(many, front) * table[many - front] for front in range(1, many + 1)))
    return table[places]


class NumbersTests(Checks):

    def test_choose_of(self):
        for many in range(13):
            for taken in range(-3, 16):
                self.same(choose_of(many, taken), comb(many, taken) if taken >= 0 else 0)
        self.same(choose_of(40, 20), 137846528820)
        self.same(choose_of(40, 0), 1)
        self.same(choose_of(40, 40), 1)
        self.same(choose_of(40, 41), 0)
        self.same(choose_of(0, -1), 0)

    def test_power_of(self):
        for base in range(-3, 12):
            for exponent in range(9):
                self.same(power_of(base, exponent), base ** exponent)
        self.same(power_of(0, 0), 1)
        self.same(power_of(0, 5), 0)
        self.same(power_of(40, 40), 40 ** 40)


class AllStandingsTests(Checks):

    def test_all_standings_ascending(self):
        for places in range(7):
            self.same(list(all_standings(places)), standings_by_trying(places))

    def test_it_is_a_generator(self):
        standings = all_standings(3)
        self.same(next(standings), (0, 0, 0))
        self.same(next(standings), (0, 0, 1))
        self.assertEqual(len(list(standings)), 11)

    def test_wrong_numbers_of_places(self):
        for thing in NO_NUMBERS + (7, 8, 40):
            self.wrong(BadCount, {"what": "places"}, lambda: next(all_standings(thing)))


class CountStandingsTests(Checks):

    def test_the_told_numbers(self):
        self.assertEqual([count_standings(places) for places in range(7)], [1, 1, 3, 13, 75, 541, 4683])

    def test_all_numbers_of_places(self):
        for places in range(41):
            self.same(count_standings(places), counted(places))

    def test_wrong_numbers_of_places(self):
        for thing in NO_NUMBERS + (41, 10 ** 9):
            self.wrong(BadCount, {"what": "places"}, count_standings, thing)


class NumberOfStandingTests(Checks):

    def test_there_and_back(self):
        for places in range(6):
            for number, standing in enumerate(standings_by_trying(places)):
                self.same(number_of_standing(standing), number)
                self.same(number_of_standing(list(standing)), number)
                self.same(standing_of_number(places, number), standing)

    def test_seven_places(self):
        self.same(number_of_standing((0,) * 7), 0)
        self.same(standing_of_number(7, 0), (0,) * 7)
        last = (6, 5, 4, 3, 2, 1, 0)
        self.same(number_of_standing(last), 47292)
        self.same(standing_of_number(7, 47292), last)
        earlier = None
        for number in range(0, 47293, 97):
            standing = standing_of_number(7, number)
            self.same(number_of_standing(standing), number)
            self.assertTrue(earlier is None or earlier < standing)
            earlier = standing

    def test_the_second_half_of_six_places(self):
        standings = standings_by_trying(6)
        for number in range(0, 4683, 41):
            self.same(number_of_standing(standings[number]), number)
            self.same(standing_of_number(6, number), standings[number])

    def test_wrong_standings(self):
        for ranks, index in (((0,) * 8, -1), ((9, 0), -1), ((0, True), 1), (None, -1), ((0, -1), 1), ("0", -1)):
            self.wrong(BadStanding, {"index": index}, number_of_standing, ranks)
        self.unchanged(number_of_standing, [1, 0, 2])

    def test_wrong_numbers(self):
        for thing in NO_NUMBERS + (8, 41):
            self.wrong(BadCount, {"what": "places"}, standing_of_number, thing, 0)
            self.wrong(BadCount, {"what": "places"}, standing_of_number, thing, None)
        for thing in NO_NUMBERS:
            self.wrong(BadNumber, {}, standing_of_number, 3, thing)
        for places in range(8):
            self.wrong(BadNumber, {}, standing_of_number, places, counted(places))
            self.same(number_of_standing(standing_of_number(places, counted(places) - 1)), counted(places) - 1)
