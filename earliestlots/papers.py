"""Stripping by a way, papers that show that no lot fits, and the judges of both ([5.7], [5.8])."""

from earliestlots.books import not_kept, way_of
from earliestlots.dates import check_lot
from earliestlots.deeds import check_deed
from earliestlots.errors import BadLot, NotFitting, NotStuck, NoWay
from earliestlots.finders import (
    fact_equations, grown_lot, growing_of, stands_in_none, strike_rows, sums_basis, unstruck_dates)
from earliestlots.lots import combined_lots, least_holding, meets_evenly
from earliestlots.standings import is_among, is_whole, standing_of_layers
from earliestlots.stripping import left_of, part_in

# The words of papers, for the ways lesser, odd and common.
WORDS = ("struck", "sums", "grown")


class Stripped:
    """The lots that took all dates, and the dating with these layers."""

    def __init__(self, lots, dating):
        self.lots = lots
        self.dating = dating

    def __eq__(self, other):
        return isinstance(other, Stripped) and self.lots == other.lots and self.dating == other.dating


class Stuck:
    """The lots taken, the dates left behind them, and a paper that shows that no lot of these fits."""

    def __init__(self, lots, dates, paper):
        self.lots = lots
        self.dates = dates
        self.paper = paper

    def __eq__(self, other):
        return (isinstance(other, Stuck) and self.lots == other.lots and self.dates == other.dates
                and self.paper == other.paper)


def strip_book(book, *, way=None):
    """The book stripped by the way: Stripped, or Stuck if the way's finder finds no lot any more."""
    deed = way_of(book) if way is None else check_deed(way)
    if deed is None or (way is not None and not_kept(book, deed) is not None):
        raise NoWay()
    left = left_of(book)
    while len(left.dates) > 0:
        lot = _found_lot(left, deed)
        if lot is None:
            return Stuck(left.lots, left.dates, _made_paper(left, deed))
        left = left.take_lot(lot)
    return Stripped(left.lots, standing_of_layers(left.lots))


def _found_lot(left, deed):
    """The lot that the way's finder finds, or None."""
    if deed == "common":
        grown = [grown_lot(left, date) for date in left.dates]
        found = [lot for lot in grown if lot is not None]
    elif deed == "odd":
        found = sums_basis(left)
    else:
        found = [lot for lot in [unstruck_dates(left)] if len(lot) > 0]
    return found[0] if len(found) > 0 else None


def paper_of(left, way):
    """A paper by which the way shows that no lot fits; NotStuck if it shows nothing."""
    check_deed(way)
    if len(left.dates) == 0 or _found_lot(left, way) is not None:
        raise NotStuck()
    return _made_paper(left, way)


def _made_paper(left, deed):
    """The paper of the way, whose finder finds no lot."""
    if deed == "common":
        return ("grown", tuple([_grown_row(left, date) for date in left.dates]))
    if deed == "odd":
        return ("sums", _sums_rows(left))
    return ("struck", strike_rows(left))


def _grown_row(left, date):
    """The date, the steps by which its lot grows, and the fact that has no lot with it."""
    _, steps, last = growing_of(left, date)
    return (date, steps, last)


def _sums_rows(left):
    """For each date left equations whose odd sum is this date alone."""
    steps = {(): ()}
    for fact, equation in fact_equations(left):
        # An equation that is an odd sum of earlier ones brings no new sums.
        if equation not in steps:
            known = list(steps)
            for lot in known:
                steps[combined_lots("sums", lot, equation)] = steps[lot] + ((fact, equation),)
    return tuple([(date, steps[(date,)]) for date in left.dates])


def paper_fault(left, paper):
    """None if the paper shows that no lot fits, else the first wrong."""
    if not isinstance(paper, (list, tuple)) or len(paper) != 2 or paper[0] not in WORDS:
        return "way"
    word, rows = paper
    if word == "struck":
        fault = _struck_fault(left, rows)
    else:
        fault = _rows_fault(left, rows, word)
    if fault is not None:
        return fault
    shown = [row[0] for row in rows]
    return None if all([date in shown for date in left.dates]) else "end"


def _struck_fault(left, rows):
    """None if the dates can be struck in this order, else the first wrong."""
    unstruck = list(left.dates)
    for date, fact in rows:
        if not is_whole(date) or date not in unstruck:
            return "date"
        if not _touches(left, fact, (date,)):
            return "fact"
        if not stands_in_none(left.fact_lots[fact], date, unstruck):
            return "row"
        unstruck.remove(date)
    return None


def _rows_fault(left, rows, word):
    """None if each row shows for an unlike date left what the word says, else the first wrong."""
    shown = []
    for row in rows:
        date = row[0]
        if not is_whole(date) or date not in left.dates or date in shown:
            return "date"
        fault = _sum_fault(left, date, row[1]) if word == "sums" else _growth_fault(left, date, row[1], row[2])
        if fault is not None:
            return fault
        shown.append(date)
    return None


def _sum_fault(left, date, steps):
    """None if the steps are equations whose odd sum is the date alone, else the first wrong."""
    total = ()
    for fact, passed in steps:
        if not _is_fact(left, fact):
            return "fact"
        equation = _dates_of_fact(left, fact, passed)
        if equation is None or not all([meets_evenly(equation, lot) for lot in left.fact_lots[fact]]):
            return "row"
        total = combined_lots("sums", total, equation)
    return None if total == (date,) else "sum"


def _growth_fault(left, date, steps, last):
    """None if the date grows by the steps until no lot of the last fact holds its part, else the first wrong."""
    grown = (date,)
    for fact, passed in steps:
        if not _touches(left, fact, grown):
            return "fact"
        added = _dates_of_fact(left, fact, passed)
        common = _common_of_holding(left, fact, grown)
        if added is None or (common is not None and part_in(added, common) != added):
            return "row"
        grown = combined_lots("joining", grown, added)
    if not _touches(left, last, grown):
        return "fact"
    return None if _common_of_holding(left, last, grown) is None else "last"


def _is_fact(left, number):
    """Whether this is the number of a fact."""
    return is_whole(number, 0, len(left.facts) - 1)


def _touches(left, number, dates):
    """Whether this is the number of a fact that has one of these among its dates left."""
    return _is_fact(left, number) and len(part_in(dates, left.facts[number][1])) > 0


def _dates_of_fact(left, fact, lot):
    """The lot, ascending, if it is one of dates left of the fact, else None."""
    try:
        return check_lot(lot, left.facts[fact][1])
    except BadLot:
        return None


def _common_of_holding(left, fact, grown):
    """What all lots of the fact that hold its part of what has grown have in common, or None if none holds it."""
    return least_holding(left.fact_lots[fact], part_in(grown, left.facts[fact][1]))


def strip_fault(book, result):
    """None if the Stripped or Stuck is right for the book, else the first wrong."""
    left = _left_behind(book, result.lots)
    if left is None:
        return "lots"
    if isinstance(result, Stripped):
        if len(left.dates) > 0:
            return "left"
        return None if _is_just(result.dating, standing_of_layers(left.lots)) else "dating"
    if len(left.dates) == 0 or not _is_just(result.dates, left.dates):
        return "dates"
    return paper_fault(left, result.paper)


def _left_behind(book, lots):
    """What is left of the book behind these lots, or None if they cannot be taken one after another."""
    left = left_of(book)
    for lot in lots:
        try:
            left = left.take_lot(lot)
        except BadLot:
            return None
        except NotFitting:
            return None
    return left


def _is_just(thing, numbers):
    """Whether this is the tuple of just these numbers."""
    return isinstance(thing, tuple) and is_among(thing, (numbers,))
