"""Dates, and lots of dates or places ([1.8], [1.9])."""

from earliestlots.errors import BadDates, BadLot
from earliestlots.standings import is_whole


def check_dates(dates, size, most=7):
    """The dates as a tuple; BadDates if they are too many or no numbers below size."""
    if not isinstance(dates, (list, tuple)) or len(dates) > most:
        raise BadDates(-1)
    for index, date in enumerate(dates):
        if not is_whole(date, 0, size - 1):
            raise BadDates(index)
    return tuple(dates)


def unlike_dates(dates):
    """Each date once, in the order of the first places."""
    return tuple([date for index, date in enumerate(dates) if date not in dates[:index]])


def check_lot(lot, among):
    """The lot, ascending; BadLot if its entries are no unlike numbers of those in among."""
    if not isinstance(lot, (list, tuple)) or len(lot) == 0:
        raise BadLot(-1)
    for index, entry in enumerate(lot):
        if not is_whole(entry) or entry not in among or entry in lot[:index]:
            raise BadLot(index)
    return tuple(sorted(lot))


def lot_key(lot):
    """What the lots are ordered by: the size, then the lot as a tuple."""
    return (len(lot), tuple(lot))


def sorted_lots(lots):
    """The unlike lots, as tuples, in the order of lots."""
    return tuple([row for _, row in sorted({lot_key(lot) for lot in lots})])
