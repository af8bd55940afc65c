"""Finding lots that fit without choosing among them ([5.6])."""

from earliestlots.errors import NoDate
from earliestlots.lots import all_lots, equations_of, least_holding, meets_evenly
from earliestlots.standings import is_whole
from earliestlots.stripping import part_in


def strike_rows(left):
    """The rows (date, fact) in which dates are struck until none can be."""
    return _strikes_within(left, left.dates)


def _strikes_within(left, dates):
    """The rows in which dates of these are struck until none can be, when the other dates left count as struck."""
    unstruck = list(dates)
    rows = []
    row = _next_strike(left, unstruck)
    while row is not None:
        rows.append(row)
        unstruck.remove(row[0])
        row = _next_strike(left, unstruck)
    return tuple(rows)


def _next_strike(left, unstruck):
    """The least date that can be struck, with the first fact that strikes it, or None."""
    for date in unstruck:
        for fact, (_, dates) in enumerate(left.facts):
            if date in dates and stands_in_none(left.fact_lots[fact], date, unstruck):
                return (date, fact)
    return None


def stands_in_none(lots, date, unstruck):
    """Whether the date stands in none of the lots that lie within the dates not struck."""
    return not any([date in lot for lot in lots if part_in(lot, unstruck) == lot])


def unstruck_dates(left):
    """The dates left that are never struck, ascending."""
    return unstruck_within(left, left.dates)


def unstruck_within(left, dates):
    """The dates of these in which every fitting lot of these lies: the greatest one if lesser keeps the book, or ()."""
    struck = [date for date, _ in _strikes_within(left, dates)]
    return tuple([date for date in dates if date not in struck])


def fact_equations(left):
    """All (fact, equation), the equations in the order of lots."""
    return [(fact, equation) for fact, (_, dates) in enumerate(left.facts)
            for equation in equations_of(left.fact_lots[fact], dates)]


def sums_basis(left):
    """The basis of the lots that meet all equations evenly, by the least dates, which stand in one lot each."""
    lots = list(all_lots(left.dates))
    for _, equation in fact_equations(left):
        lots = [lot for lot in lots if meets_evenly(lot, equation)]
    # The lots are closed under odd sums, so each least date is that of just one lot without other least dates.
    leasts = sorted({lot[0] for lot in lots})
    return tuple([_with_one_least(lots, leasts, date) for date in leasts])


def _with_one_least(lots, leasts, date):
    """The lot with this one of the least dates alone."""
    return [lot for lot in lots if part_in(lot, leasts) == (date,)][0]


def grown_lot(left, date):
    """The least lot with the date as far as the facts show, or None if they show that none fits."""
    if not is_whole(date) or date not in left.dates:
        raise NoDate(date)
    lot, _, last = growing_of(left, date)
    return lot if last is None else None


def growing_of(left, date):
    """The grown lot, the steps (fact, lot added), and the fact that stops it, or None; nothing is checked."""
    grown = (date,)
    steps = []
    row = _next_growth(left, grown)
    while row is not None:
        fact, added = row
        if added is None:
            return (grown, tuple(steps), fact)
        steps.append(row)
        grown = tuple(sorted(grown + added))
        row = _next_growth(left, grown)
    return (grown, tuple(steps), None)


def _next_growth(left, grown):
    """The first fact that adds dates, and these dates, or None for them if no lot holds its part; None if none does."""
    for fact, (_, dates) in enumerate(left.facts):
        common = least_holding(left.fact_lots[fact], part_in(grown, dates))
        if common is None:
            return (fact, None)
        added = tuple([date for date in common if date not in grown])
        if len(added) > 0:
            return (fact, added)
    return None
