"""Earliest and latest dates of books that lesser keeps ([7.1], [7.2])."""

from earliestlots.books import check_lesser, not_kept, turned_book
from earliestlots.papers import Stuck, strip_book
from earliestlots.standings import turned_standing


def not_lesser(book):
    """The number of the first fact that, made equal, is not kept by lesser, or None."""
    return not_kept(book, "lesser")


def earliest_dates(book):
    """The dating at which no date is later than in any other dating, or a Stuck if there is none."""
    check_lesser(book)
    outcome = strip_book(book, way="lesser")
    return outcome if isinstance(outcome, Stuck) else outcome.dating


def latest_dates(book):
    """The dating at which no date is farther from the end than in any other, or the Stuck of the turned book."""
    outcome = earliest_dates(turned_book(book))
    return outcome if isinstance(outcome, Stuck) else turned_standing(outcome)
