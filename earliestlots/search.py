"""Searching for datings, and lots that mislead ([5.9])."""

from earliestlots.books import Book, fits_book, not_over
from earliestlots.countings import all_standings
from earliestlots.errors import TooMany
from earliestlots.relations import one_standing
from earliestlots.rests import stray_at
from earliestlots.standings import cut_down, layers_of
from earliestlots.stripping import all_fitting, left_of

MOST_SEARCHED = 6
MOST_MISLED = 5


class Misled:
    """Lots that fit one after another, and a dating that goes on otherwise than by the last of them."""

    def __init__(self, lots, dating):
        self.lots = lots
        self.dating = dating

    def __eq__(self, other):
        return isinstance(other, Misled) and self.lots == other.lots and self.dating == other.dating


def search_dating(book):
    """The first dating, ascending, or None."""
    if book.size > MOST_SEARCHED:
        raise TooMany(MOST_SEARCHED)
    for standing in all_standings(book.size):
        if fits_book(book, standing):
            return standing
    return None


def misled_by(book):
    """A Misled whose last lot begins no dating although the book has one, or None."""
    if book.size > MOST_MISLED:
        raise TooMany(MOST_MISLED)
    # What can be taken over misleads nowhere.
    if not_over(book) is None:
        return None
    datings = [standing for standing in all_standings(book.size) if fits_book(book, standing)]
    return _misled_behind(left_of(book), [(dating, layers_of(dating)) for dating in datings])


def _misled_behind(left, rows):
    """A Misled with more lots than were taken, or None; the rows are the datings that begin so, with their layers."""
    if len(rows) == 0:
        return None
    for lot in all_fitting(left):
        begun = [row for row in rows if row[1][len(left.lots)] == lot]
        if len(begun) == 0:
            return Misled(left.lots + (lot,), rows[0][0])
        found = _misled_behind(left.take_lot(lot), begun)
        if found is not None:
            return found
    return None


def misleading_book(relation):
    """None if the relation can be taken over, else a misled book of it and of one standing over some of its dates."""
    stray = stray_at(relation)
    if stray is None:
        return None
    taken = [place for lot in stray.before for place in lot]
    left = [place for place in range(relation.places) if place not in taken]
    # Behind the lot of the stray these dates can no longer stand as its member has them.
    others = [place for place in left if place not in stray.lot]
    wanted = one_standing(cut_down(stray.standing, [left.index(place) for place in others]))
    return Book(relation.places, [(relation, list(range(relation.places))), (wanted, others)])
