"""Books of facts about dates, and what fits them ([5.1], [5.2])."""

from earliestlots.closings import kept_by_lots
from earliestlots.deeds import DEEDS
from earliestlots.errors import BadBook, NoFact, NotLesser
from earliestlots.joining import made_equal
from earliestlots.relations import Relation, turned_relation
from earliestlots.rests import over_by_lots
from earliestlots.standings import MOST_PLACES, check_standing, is_whole, standing_of

MOST_FACTS = 12


class Book:
    """Dates from 0 to size - 1, and facts: couples of a relation and as many dates as it has places."""

    def __init__(self, size, facts):
        if not is_whole(size, 0, MOST_PLACES):
            raise BadBook(-1, "size")
        if not isinstance(facts, (list, tuple)) or len(facts) > MOST_FACTS:
            raise BadBook(-1, "many")
        for index, fact in enumerate(facts):
            fault = fact_fault(fact, size)
            if fault is not None:
                raise BadBook(index, fault)
        self.size = size
        self.facts = tuple([(relation, tuple(dates)) for relation, dates in facts])

    def __len__(self):
        return len(self.facts)

    def __eq__(self, other):
        return isinstance(other, Book) and self.size == other.size and self.facts == other.facts


def fact_fault(fact, size):
    """None if this is a fact about dates below size, else the first wrong."""
    if not isinstance(fact, (list, tuple)) or len(fact) != 2 or not isinstance(fact[1], (list, tuple)):
        return "fact"
    relation, dates = fact
    if not isinstance(relation, Relation) or relation.places == 0 or len(dates) != relation.places:
        return "places"
    if not all([is_whole(date, 0, size - 1) for date in dates]):
        return "date"
    return None


def equal_book(book):
    """The book of the facts made equal."""
    return Book(book.size, [made_equal(relation, dates) for relation, dates in book.facts])


def turned_book(book):
    """The book of the turned relations."""
    return Book(book.size, [(turned_relation(relation), dates) for relation, dates in book.facts])


def book_with(book, fact):
    """The book with this fact behind the others."""
    return Book(book.size, book.facts + (fact,))


def book_without(book, number):
    """The book without the fact of this number."""
    check_fact_number(book, number)
    return Book(book.size, book.facts[:number] + book.facts[number + 1:])


def check_fact_number(book, number):
    """NoFact if no fact of the book has this number."""
    if not is_whole(number, 0, len(book.facts) - 1):
        raise NoFact(number)


def fit_fault(book, dating):
    """The number of the first fact that the dating does not fit, or None."""
    ranks = check_standing(dating, book.size)
    for number, fact in enumerate(book.facts):
        if not fits_fact(fact, ranks):
            return number
    return None


def fits_fact(fact, ranks):
    """Whether the standing fits the fact; nothing is checked."""
    relation, dates = fact
    return relation.holds(standing_of([ranks[date] for date in dates]))


def fits_book(book, dating):
    """Whether the dating fits every fact."""
    return fit_fault(book, dating) is None


def not_over(book):
    """The number of the first fact that, made equal, cannot be taken over, or None."""
    for number, (relation, _) in enumerate(equal_book(book).facts):
        if not over_by_lots(relation):
            return number
    return None


def not_kept(book, deed):
    """The number of the first fact that, made equal, the deed does not keep, or None."""
    for number, (relation, _) in enumerate(equal_book(book).facts):
        if not kept_by_lots(relation, deed):
            return number
    return None


def check_lesser(book):
    """NotLesser with the number of the first fact that, made equal, is not kept by lesser."""
    fact = not_kept(book, "lesser")
    if fact is not None:
        raise NotLesser(fact)


def ways_of(book):
    """The deeds that keep the book, in their order."""
    return tuple([deed for deed in DEEDS if not_kept(book, deed) is None])


def way_of(book):
    """The first deed that keeps the book, or None."""
    for deed in DEEDS:
        if not_kept(book, deed) is None:
            return deed
    return None
