"""Tests of [1.8] and [1.9]."""

from earliestlots.dates import check_dates, check_lot, lot_key, sorted_lots, unlike_dates
from earliestlots.errors import BadDates, BadLot
from itertools import permutations, product
from tests.helper import NO_NUMBERS, NO_SEQUENCES, Checks, subsets


class DatesTests(Checks):

    def test_right_dates(self):
        self.same(check_dates([], 0), ())
        self.same(check_dates([2, 0, 2], 3), (2, 0, 2))
        self.same(check_dates((0,) * 7, 1), (0,) * 7)
        self.same(check_dates([0] * 9, 1, 9), (0,) * 9)
        self.same(check_dates([0] * 9, 1, most=12), (0,) * 9)
        self.same(check_dates((99,), 100, 1), (99,))
        self.same(check_dates((), 5, 0), ())
        self.unchanged(check_dates, [2, 0, 2], 3)

    def test_which_index_is_told(self):
        for thing in NO_SEQUENCES:
            self.wrong(BadDates, {"index": -1}, check_dates, thing, 3)
        self.wrong(BadDates, {"index": -1}, check_dates, (0,) * 8, 1)
        self.wrong(BadDates, {"index": -1}, check_dates, ("x",) * 8, 1)
        self.wrong(BadDates, {"index": -1}, check_dates, (0, 1, 0), 2, 2)
        self.wrong(BadDates, {"index": -1}, check_dates, (0,), 2, most=0)
        for thing in NO_NUMBERS + (3, 4, 10 ** 20):
            self.wrong(BadDates, {"index": 2}, check_dates, (0, 0, thing, None), 3)
        self.wrong(BadDates, {"index": 0}, check_dates, (0,), 0)

    def test_unlike_dates(self):
        self.same(unlike_dates(()), ())
        self.same(unlike_dates([2, 0, 2, 1, 0]), (2, 0, 1))
        for many in range(5):
            for dates in product(range(3), repeat=many):
                self.same(unlike_dates(dates), tuple(dict.fromkeys(dates)))
                self.same(unlike_dates(list(dates)), tuple(dict.fromkeys(dates)))
        self.unchanged(unlike_dates, [1, 1, 0])


class LotTests(Checks):

    def test_entries_in_any_order(self):
        for lot in subsets(range(4))[1:]:
            for entries in permutations(lot):
                self.same(check_lot(entries, range(4)), lot)
                self.same(check_lot(list(entries), [3, 2, 1, 0]), lot)
        self.same(check_lot([9, 2], (2, 5, 9)), (2, 9))
        self.unchanged(check_lot, [9, 2], [2, 5, 9])

    def test_which_index_is_told(self):
        for thing in NO_SEQUENCES + ((), []):
            self.wrong(BadLot, {"index": -1}, check_lot, thing, (0, 1))
        for thing in NO_NUMBERS + (3, 2):
            self.wrong(BadLot, {"index": 1}, check_lot, (0, thing, 0), (0, 1))
        self.wrong(BadLot, {"index": 1}, check_lot, [0, 0, 5], (0, 1))
        self.wrong(BadLot, {"index": 2}, check_lot, [1, 0, 1], (0, 1))
        self.wrong(BadLot, {"index": 0}, check_lot, [0], ())
        self.wrong(BadLot, {"index": 0}, check_lot, [0, 0], (1, 2))

    def test_lot_key(self):
        self.same(lot_key((0, 2)), (2, (0, 2)))
        self.same(lot_key([5]), (1, (5,)))
        self.same(lot_key([3, 1]), (2, (3, 1)))
        self.unchanged(lot_key, [3, 1])

    def test_sorted_lots(self):
        self.same(sorted_lots([]), ())
        self.same(sorted_lots([[0, 1, 2], (1,), [0, 2], (0,), (0, 1), [1], (0, 2)]),
                  ((0,), (1,), (0, 1), (0, 2), (0, 1, 2)))
        self.same(sorted_lots(([2, 0], (0, 2), (1, 5))), ((0, 2), (1, 5), (2, 0)))
        self.same(sorted_lots([(9,), (1, 2)]), ((9,), (1, 2)))
        self.unchanged(sorted_lots, [[1], [0, 1], [0]])

    def test_all_lots_of_four(self):
        lots = subsets(range(4))[1:]
        self.same(sorted_lots(lots[::-1]), tuple(lots))
