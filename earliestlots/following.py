"""What follows from a book, what may be, and what its datings surely show ([9.1] to [9.3])."""

from earliestlots.alldatings import all_datings
from earliestlots.books import Book, fits_book
from earliestlots.errors import BadDates, TooMany
from earliestlots.relations import MOST_RELATED, Relation
from earliestlots.search import MOST_SEARCHED
from earliestlots.standings import cut_down, is_whole

# So many facts that there may be one more.
MOST_FOLLOWED = 11


def check_small(book, most):
    """TooMany if the book has more than 6 dates, or more than this many facts."""
    if book.size > MOST_SEARCHED:
        raise TooMany(MOST_SEARCHED)
    if len(book) > most:
        raise TooMany(most)


def fact_follows(book, fact):
    """None if every dating of the book fits the fact, else a dating that does not."""
    return _dating_with(book, fact, False)


def may_be(book, fact):
    """A dating of the book that fits the fact, or None."""
    return _dating_with(book, fact, True)


def _dating_with(book, fact, fitting):
    """The first dating of the book that fits the fact, or does not, as asked; None if there is none."""
    check_small(book, MOST_FOLLOWED)
    alone = Book(book.size, [fact])
    for dating in all_datings(book):
        if fits_book(alone, dating) == fitting:
            return dating
    return None


def surely_shown(book, dates):
    """The relation of what the datings of the book show at these unlike dates."""
    check_small(book, MOST_FOLLOWED)
    if not isinstance(dates, (list, tuple)) or not 1 <= len(dates) <= MOST_RELATED:
        raise BadDates(-1)
    for index, date in enumerate(dates):
        if not is_whole(date, 0, book.size - 1) or date in dates[:index]:
            raise BadDates(index)
    return Relation(len(dates), [cut_down(dating, dates) for dating in all_datings(book)])
