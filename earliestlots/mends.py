"""Facts without which a book has a dating, and facts that clash ([9.4])."""

from earliestlots.books import fits_fact
from earliestlots.countings import all_standings
from earliestlots.dates import sorted_lots
from earliestlots.following import check_small
from earliestlots.lots import all_lots

MOST_MENDED = 8


def misfits_of(facts, ranks):
    """The numbers of those of the facts that the standing does not fit, ascending; nothing is checked."""
    return tuple([number for number, fact in enumerate(facts) if not fits_fact(fact, ranks)])


def lots_of_numbers(many):
    """All lots of the numbers below many, in the order of lots, () first."""
    return ((),) + all_lots(tuple(range(many)))


def struck_mends(book):
    """The mends no smaller part of which is a mend, by size, then ascending."""
    check_small(book, MOST_MENDED)
    # A lot is a mend if it holds all misfits of some standing.
    return _smallest(sorted_lots([misfits_of(book.facts, ranks) for ranks in all_standings(book.size)]))


def least_clashes(book):
    """The clashes no smaller part of which is a clash, by size, then ascending."""
    mends = struck_mends(book)
    # A lot is a clash if it has a fact in common with every mend.
    return _smallest([lot for lot in lots_of_numbers(len(book)) if all([_have_common(lot, mend) for mend in mends])])


def _have_common(one, other):
    """Whether the lots have a number in common."""
    return any([number in other for number in one])


def _smallest(lots):
    """Those of the lots, in the order of lots, no smaller part of which is one of them."""
    found = []
    for lot in lots:
        if not any([all([number in lot for number in part]) for part in found]):
            found.append(lot)
    return tuple(found)
