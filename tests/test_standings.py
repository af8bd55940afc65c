"""Tests of [1.1] to [1.6]."""

from earliestlots.errors import BadLayers, BadPlaces, BadStanding
from earliestlots.standings import (
    check_places, check_standing, cut_down, front_of, is_whole, layers_of, ranks_number, standing_of,
    standing_of_layers, turned_standing)
from itertools import permutations, product
from tests.helper import NO_NUMBERS, NO_SEQUENCES, Checks, part_of, ranked, standings_by_trying

SMALL = [standing for places in range(5) for standing in standings_by_trying(places)]

# What check_standing(ranks) refuses, and the index of BadStanding.
NO_STANDINGS = [(thing, -1) for thing in NO_SEQUENCES] + [
    ((0,) * 8, -1), ((0, 1, 2, 3, 4, 5, 6, 7), -1), (["x"] * 8, -1), ((9, 0), -1), ([9, 0], -1), ((1,), -1),
    ((0, 2), -1), ((2, 2, 0), -1), ((1, 2), -1), ((10 ** 30, 0), -1), ((9, -1), 1), ((9, 0, "x"), 2),
    ((-1, "x"), 0), ((0, 1, True), 2), ((False,), 0), ((0, False), 1), ([True, 0], 0), ((0, 1.0), 1),
    ((0, None, -1), 1), ((0, "0"), 1), ((0, 1, (0,)), 2), ((0, [0]), 1), ((0, 1, 2, 3, 4, 5, -1), 6)]


class WholeTests(Checks):

    def test_numbers_within_the_bounds(self):
        for number in (-3, 0, 1, 10 ** 40):
            self.assertIs(is_whole(number), True)
            self.assertIs(is_whole(number, number, number), True)
            self.assertIs(is_whole(number, low=number - 1), True)
            self.assertIs(is_whole(number, high=number + 1), True)
            self.assertIs(is_whole(number, number + 1), False)
            self.assertIs(is_whole(number, None, number - 1), False)
            self.assertIs(is_whole(number, None, None), True)
        self.assertIs(is_whole(5, 0, 4), False)
        self.assertIs(is_whole(-1, 0, 4), False)

    def test_bounds_of_zero_count(self):
        self.assertIs(is_whole(-1, 0), False)
        self.assertIs(is_whole(1, None, 0), False)
        self.assertIs(is_whole(0, 0, 0), True)

    def test_other_kinds_and_truths_are_no_numbers(self):
        for thing in (True, False, None, "1", 1.0, (1,), [], b"1", object()):
            self.assertIs(is_whole(thing), False)
            self.assertIs(is_whole(thing, 0, 9), False)


class CheckStandingTests(Checks):

    def test_all_standings_pass_as_tuples(self):
        for standing in SMALL + [tuple(range(7)), (6, 5, 4, 3, 2, 1, 0), (0,) * 7]:
            self.same(check_standing(standing), standing)
            self.same(check_standing(list(standing)), standing)
            self.same(check_standing(list(standing), len(standing)), standing)
            self.same(check_standing(standing, places=None), standing)

    def test_all_other_small_rows_are_refused(self):
        for places in range(1, 5):
            right = set(standings_by_trying(places))
            for row in product(range(places + 1), repeat=places):
                if row not in right:
                    self.wrong(BadStanding, {"index": -1}, check_standing, row)

    def test_which_index_is_told(self):
        for ranks, index in NO_STANDINGS:
            self.wrong(BadStanding, {"index": index}, check_standing, ranks)
        for thing in NO_NUMBERS:
            self.wrong(BadStanding, {"index": 1}, check_standing, (0, thing, 0))

    def test_other_numbers_of_places_come_first(self):
        for ranks, places in (((), 1), ((0,), 0), ((0, 1), 3), ((0, "x"), 3), ((0, 1, 2), 2), ((2, 0), 1)):
            self.wrong(BadStanding, {"index": -1}, check_standing, ranks, places)
        self.wrong(BadStanding, {"index": 1}, check_standing, (0, "x"), 2)
        self.wrong(BadStanding, {"index": -1}, check_standing, (0, 2), places=2)

    def test_nothing_is_changed(self):
        self.unchanged(check_standing, [1, 0, 1])


class StandingOfTests(Checks):

    def test_the_example_and_edges(self):
        self.same(standing_of((5, 2, 5, 9)), (1, 0, 1, 2))
        self.same(standing_of(()), ())
        self.same(standing_of([]), ())
        self.same(standing_of([-4]), (0,))
        self.same(standing_of([-4, 10 ** 30, -4, -5]), (1, 2, 1, 0))

    def test_all_small_rows_of_keys(self):
        for places in range(5):
            for keys in product((-2, 0, 7, 30), repeat=places):
                self.same(standing_of(keys), ranked(keys))
                self.same(standing_of(list(keys)), ranked(keys))

    def test_keys_that_are_tuples(self):
        self.same(standing_of([(1, 0), (0, 5), (1, 0), (1, -1)]), (2, 0, 2, 1))
        self.same(standing_of(((), ())), (0, 0))

    def test_sixty_keys(self):
        keys = [(index * 37) % 60 for index in range(60)]
        self.same(standing_of(keys), tuple(keys))
        self.same(standing_of([key // 2 for key in keys]), tuple(key // 2 for key in keys))

    def test_nothing_is_changed(self):
        self.unchanged(standing_of, [3, 1, 3])


class PlacesTests(Checks):

    def test_right_places(self):
        self.same(check_places([2, 0], 3), (2, 0))
        self.same(check_places((), 0), ())
        self.same(check_places([], 4), ())
        self.same(check_places((6, 5, 4, 3, 2, 1, 0), 7), (6, 5, 4, 3, 2, 1, 0))
        self.unchanged(check_places, [2, 0], 3)

    def test_which_index_is_told(self):
        for thing in NO_SEQUENCES:
            self.wrong(BadPlaces, {"index": -1}, check_places, thing, 3)
        for thing in NO_NUMBERS + (3, 4, 10 ** 20):
            self.wrong(BadPlaces, {"index": 1}, check_places, (0, thing), 3)
        for places, index in (((0, 0), 1), ((2, 1, 0, 1), 3), ((3, 0, 0), 0), ((1, 2, 2, 9), 2), ((0, True), 1)):
            self.wrong(BadPlaces, {"index": index}, check_places, places, 3)
        self.wrong(BadPlaces, {"index": 0}, check_places, [0], 0)


class CutDownTests(Checks):

    def test_the_example_and_edges(self):
        self.same(cut_down((0, 1, 2, 1), (2, 1)), (1, 0))
        self.same(cut_down((), ()), ())
        self.same(cut_down([0, 1, 2], []), ())
        self.same(cut_down((6, 5, 4, 3, 2, 1, 0), (0, 6, 3)), (2, 0, 1))

    def test_all_small_standings_and_places(self):
        for standing in SMALL:
            for size in range(len(standing) + 1):
                for places in permutations(range(len(standing)), size):
                    self.same(cut_down(list(standing), list(places)), part_of(standing, places))

    def test_places_that_name_all_rename(self):
        self.same(cut_down((0, 2, 1), (2, 0, 1)), (1, 0, 2))

    def test_wrong_standings_come_before_wrong_places(self):
        for ranks, index in NO_STANDINGS:
            self.wrong(BadStanding, {"index": index}, cut_down, ranks, (0, 0))
            self.wrong(BadStanding, {"index": index}, cut_down, ranks, None)
        self.wrong(BadPlaces, {"index": -1}, cut_down, (0, 1), None)
        self.wrong(BadPlaces, {"index": 1}, cut_down, (0, 1), (1, 2))
        self.wrong(BadPlaces, {"index": 1}, cut_down, (0, 1), [1, 1])
        self.wrong(BadPlaces, {"index": 0}, cut_down, (), (0,))

    def test_nothing_is_changed(self):
        self.unchanged(cut_down, [0, 1, 2, 1], [2, 1])


class LookingTests(Checks):

    def test_edges(self):
        self.same(ranks_number(()), 0)
        self.same(turned_standing(()), ())
        self.same(front_of(()), ())
        self.same(layers_of(()), ())
        self.same(ranks_number([3, 1, 0, 2, 3, 0, 1]), 4)
        self.same(turned_standing([3, 1, 0, 2, 3, 0, 1]), (0, 2, 3, 1, 0, 3, 2))
        self.same(front_of([3, 1, 0, 2, 3, 0, 1]), (2, 5))
        self.same(layers_of([3, 1, 0, 2, 3, 0, 1]), ((2, 5), (1, 6), (3,), (0, 4)))

    def test_all_small_standings(self):
        for standing in SMALL:
            many = len(set(standing))
            self.same(ranks_number(standing), many)
            self.same(turned_standing(standing), tuple(many - 1 - rank for rank in standing))
            layers = tuple(tuple(p for p in range(len(standing)) if standing[p] == r) for r in range(many))
            self.same(layers_of(standing), layers)
            self.same(front_of(standing), layers[0] if layers else ())
            self.same(standing_of_layers(layers), standing)

    def test_what_is_no_standing_is_refused(self):
        for call in (ranks_number, turned_standing, front_of, layers_of):
            for ranks, index in NO_STANDINGS:
                self.wrong(BadStanding, {"index": index}, call, ranks)
            self.unchanged(call, [1, 0, 2, 1])


class LayersTests(Checks):

    def test_right_layers(self):
        self.same(standing_of_layers(()), ())
        self.same(standing_of_layers([]), ())
        self.same(standing_of_layers([[2, 0], (1,)]), (0, 1, 0))
        self.same(standing_of_layers([(6,), (0, 5), [4, 3, 2, 1]]), (1, 2, 2, 2, 2, 1, 0))
        self.unchanged(standing_of_layers, [[2, 0], [1]])

    def test_which_index_is_told(self):
        for thing in NO_SEQUENCES:
            self.wrong(BadLayers, {"index": -1}, standing_of_layers, thing)
            self.wrong(BadLayers, {"index": 1}, standing_of_layers, [(0,), thing])
        for thing in NO_NUMBERS + (7, 8):
            self.wrong(BadLayers, {"index": 1}, standing_of_layers, [(0,), (1, thing)])
        for layers, index in (
                ([()], 0), ([(0,), []], 1), ([(0, 0)], 0), ([(0,), (1, 0)], 1), ([(0,), (1,), (1,), ()], 2),
                ([(1,)], -1), ([(0,), (2,)], -1), ([(6,)], -1), ([(0, 1), (3,)], -1), ([(9,), (0, 0)], 0),
                ([(1,), (7,)], 1), ([(1, True)], 0), ([(0, False)], 0), ([(2,), ()], 1)):
            self.wrong(BadLayers, {"index": index}, standing_of_layers, layers)
