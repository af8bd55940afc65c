"""Stripping a book: taking lots of its dates that fit, one after another ([5.3] to [5.5])."""

from earliestlots.books import Book, check_fact_number, equal_book, not_over
from earliestlots.dates import check_lot, sorted_lots
from earliestlots.errors import NotFitting, NotOver
from earliestlots.lots import all_lots, earliest_lots, rest_by


class Left:
    """A book behind some lots of dates that were taken; made by left_of and take_lot alone."""

    def __init__(self, book, lots, dates, facts):
        self.book = book
        self.lots = lots
        self.dates = dates
        self.facts = facts
        self.fact_lots = tuple([_lots_of_dates(relation, held) for relation, held in facts])

    def left_fact(self, number):
        """What is left of the fact of this number."""
        check_fact_number(self.book, number)
        return self.facts[number]

    def misfit(self, lot):
        """None if the lot fits, else the number of the first fact that it does not fit."""
        return first_misfit(self, check_lot(lot, self.dates))

    def fits_lot(self, lot):
        """Whether the lot fits."""
        return self.misfit(lot) is None

    def take_lot(self, lot):
        """What is left behind the lot."""
        fact = self.misfit(lot)
        if fact is not None:
            raise NotFitting(fact)
        taken = check_lot(lot, self.dates)
        dates = tuple([date for date in self.dates if date not in taken])
        facts = tuple([_fact_behind(relation, held, taken) for relation, held in self.facts])
        return Left(self.book, self.lots + (taken,), dates, facts)


def _lots_of_dates(relation, dates):
    """The earliest lots of the relation as lots of its dates, in the order of lots."""
    return sorted_lots([sorted([dates[place] for place in lot]) for lot in earliest_lots(relation)])


def _fact_behind(relation, dates, lot):
    """What is left of a fact behind a lot that fits."""
    part = [place for place, date in enumerate(dates) if date in lot]
    if len(part) == 0:
        return (relation, dates)
    return (rest_by(relation, part), tuple([date for date in dates if date not in lot]))


def part_in(lot, dates):
    """The dates of the lot that are among these, in the order of the lot."""
    return tuple([date for date in lot if date in dates])


def first_misfit(left, lot):
    """What misfit returns for an ascending lot of dates left; nothing is checked."""
    for number, (_, dates) in enumerate(left.facts):
        part = part_in(lot, dates)
        if len(part) > 0 and part not in left.fact_lots[number]:
            return number
    return None


def left_of(book):
    """The book with nothing taken."""
    return Left(book, (), tuple(range(book.size)), equal_book(book).facts)


def all_fitting(left):
    """All lots that fit, in the order of lots."""
    return tuple([lot for lot in all_lots(left.dates) if first_misfit(left, lot) is None])


def left_book(left):
    """The book of the dates left, renumbered, and of what is left of the facts."""
    facts = [(relation, [left.dates.index(date) for date in dates])
             for relation, dates in left.facts if len(dates) > 0]
    return Book(len(left.dates), facts)


def knot_of(book):
    """The dates left when no lot fits any more; NotOver if they may depend on the choice of lots."""
    fact = not_over(book)
    if fact is not None:
        raise NotOver(fact)
    left = left_of(book)
    lots = all_fitting(left)
    while len(lots) > 0:
        left = left.take_lot(lots[-1])
        lots = all_fitting(left)
    return left.dates
