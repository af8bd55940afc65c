"""Numberings of books: the earliest ones from floors on, dates put off, and ceilings ([7.3] to [7.6])."""

from earliestlots.books import check_lesser, fits_book
from earliestlots.errors import BadMoment, BadNumbers, NoDate, NotFit
from earliestlots.finders import unstruck_within
from earliestlots.standings import is_whole, standing_of
from earliestlots.stripping import left_of

GREATEST_NUMBER = 99


class Late:
    """A date whose ceiling is below its earliest number, and this number."""

    def __init__(self, date, number):
        self.date = date
        self.number = number

    def __eq__(self, other):
        return isinstance(other, Late) and self.date == other.date and self.number == other.number


def check_numbers(book, numbers):
    """The numbering as a tuple; BadNumbers if it is none of the book."""
    if not isinstance(numbers, (list, tuple)) or len(numbers) != book.size:
        raise BadNumbers(-1)
    for index, number in enumerate(numbers):
        if not is_whole(number, 0, GREATEST_NUMBER):
            raise BadNumbers(index)
    return tuple(numbers)


def numbers_fit(book, numbers):
    """Whether the numbering fits the book."""
    return fits_book(book, standing_of(check_numbers(book, numbers)))


def _check_fitting(book, numbers):
    """NotFit if this numbering does not fit the book."""
    if not numbers_fit(book, numbers):
        raise NotFit()


def lesser_numbers(book, one, other):
    """For each date the lesser of its numbers in two fitting numberings."""
    check_lesser(book)
    couples = list(zip(check_numbers(book, one), check_numbers(book, other)))
    _check_fitting(book, one)
    _check_fitting(book, other)
    return tuple([min(couple) for couple in couples])


def earliest_from(book, floors):
    """The fitting numbering nowhere below the floors that is nowhere above another one; None without a dating."""
    check_lesser(book)
    return _earliest_above(book, check_numbers(book, floors))


def _earliest_above(book, floors):
    """What earliest_from returns; nothing is checked."""
    left = left_of(book)
    numbers = {}
    moment = 0
    while len(left.dates) > 0:
        lot = unstruck_within(left, [date for date in left.dates if floors[date] <= moment])
        if len(lot) > 0:
            numbers.update({date: moment for date in lot})
            left = left.take_lot(lot)
            moment += 1
        else:
            # Nothing new can fit before the next floor is met.
            later = [floors[date] for date in left.dates if floors[date] > moment]
            if len(later) == 0:
                return None
            moment = min(later)
    return tuple([numbers[date] for date in range(book.size)])


def put_off(book, numbers, date, moment):
    """The earliest numbering nowhere below these fitting numbers in which the date is not before the moment."""
    check_lesser(book)
    floors = list(check_numbers(book, numbers))
    if not is_whole(date, 0, book.size - 1):
        raise NoDate(date)
    if not is_whole(moment, 0, GREATEST_NUMBER):
        raise BadMoment()
    _check_fitting(book, numbers)
    floors[date] = max(floors[date], moment)
    return _earliest_above(book, floors)


def dated_within(book, floors, ceilings):
    """The earliest numbering from the floors on, or the Late date for which its ceiling is too low."""
    check_lesser(book)
    lowest = check_numbers(book, floors)
    highest = check_numbers(book, ceilings)
    numbers = _earliest_above(book, lowest)
    if numbers is None:
        return None
    for date, number in enumerate(numbers):
        if number > highest[date]:
            return Late(date, number)
    return numbers


def earliest_fault(book, numbers, *, floors=None):
    """None if this is the earliest numbering from the floors on, else the first wrong."""
    check_lesser(book)
    lowest = (0,) * book.size if floors is None else check_numbers(book, floors)
    try:
        passed = check_numbers(book, numbers)
    except BadNumbers:
        return "numbers"
    if any([number < floor for number, floor in zip(passed, lowest)]):
        return "floor"
    if not numbers_fit(book, passed):
        return "fit"
    return None if _earliest_above(book, lowest) == passed else "early"
