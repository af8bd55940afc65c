"""All datings of a book, how many they are, and their numbers ([7.10])."""

from earliestlots.books import fits_book
from earliestlots.countings import all_standings
from earliestlots.errors import BadNumber, NotFit, TooMany
from earliestlots.standings import check_standing, is_whole

MOST_DATED = 6


def _check_size(book):
    """TooMany if the datings of a book of so many dates are not walked."""
    if book.size > MOST_DATED:
        raise TooMany(MOST_DATED)


def all_datings(book):
    """All datings of the book, ascending."""
    _check_size(book)
    for standing in all_standings(book.size):
        if fits_book(book, standing):
            yield standing


def count_datings(book):
    """How many datings there are."""
    return len(list(all_datings(book)))


def number_of_dating(book, dating):
    """The number of the dating among all datings, ascending."""
    ranks = check_standing(dating, book.size)
    _check_size(book)
    if not fits_book(book, ranks):
        raise NotFit()
    return list(all_datings(book)).index(ranks)


def dating_of_number(book, number):
    """The dating that has this number."""
    datings = list(all_datings(book))
    if not is_whole(number, 0, len(datings) - 1):
        raise BadNumber()
    return datings[number]
