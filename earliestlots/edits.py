"""Edits of books, and datings led back through them ([10.1] to [10.4])."""

from earliestlots.books import MOST_FACTS, Book, book_with, book_without, fact_fault, turned_book
from earliestlots.errors import BadEdit
from earliestlots.relations import Relation, meet_of
from earliestlots.standings import MOST_PLACES, check_standing, cut_down, is_whole, turned_standing

# How many items an edit of this word has.
EDIT_ITEMS = {"add": 3, "drop": 2, "narrow": 3, "tie": 3, "date": 1, "turn": 1}


def check_edit(book, edit):
    """The edit as a tuple; BadEdit if it is none that can be done to the book."""
    if not _can_be_done(book, edit):
        raise BadEdit(0)
    if edit[0] == "add":
        return ("add", edit[1], tuple(edit[2]))
    return tuple(edit)


def _can_be_done(book, edit):
    """Whether this is an edit that can be done to the book."""
    if not isinstance(edit, (list, tuple)) or len(edit) == 0 or not isinstance(edit[0], str):
        return False
    if EDIT_ITEMS.get(edit[0]) != len(edit):
        return False
    if edit[0] == "add":
        return len(book) < MOST_FACTS and fact_fault(edit[1:], book.size) is None
    if edit[0] == "drop":
        return is_whole(edit[1], 0, len(book) - 1)
    if edit[0] == "narrow":
        return is_whole(edit[1], 0, len(book) - 1) and _is_alike(edit[2], book.facts[edit[1]][0])
    if edit[0] == "tie":
        return all([is_whole(date, 0, book.size - 1) for date in edit[1:]]) and edit[1] != edit[2]
    return edit[0] == "turn" or book.size < MOST_PLACES


def _is_alike(thing, relation):
    """Whether this is a relation of as many places."""
    return isinstance(thing, Relation) and thing.places == relation.places


def edited_book(book, edit):
    """The book behind the edit."""
    done = check_edit(book, edit)
    if done[0] == "add":
        return book_with(book, done[1:])
    if done[0] == "drop":
        return book_without(book, done[1])
    if done[0] == "narrow":
        return _narrowed_book(book, done[1], done[2])
    if done[0] == "tie":
        return _tied_book(book, done[1], done[2])
    if done[0] == "date":
        return Book(book.size + 1, book.facts)
    return turned_book(book)


def _narrowed_book(book, number, narrower):
    """The book in which the relation of this fact is its meet with the narrower one."""
    relation, dates = book.facts[number]
    fact = (meet_of(relation, narrower), dates)
    return Book(book.size, book.facts[:number] + (fact,) + book.facts[number + 1:])


def _tied_book(book, one, other):
    """The book in which the two dates are one date."""
    numbers = _numbers_behind_tie(book.size, one, other)
    return Book(book.size - 1, [(relation, [numbers[date] for date in dates]) for relation, dates in book.facts])


def _numbers_behind_tie(size, one, other):
    """For each date its number when the two dates are one date."""
    low = min(one, other)
    high = max(one, other)
    return [low if date == high else date - 1 if date > high else date for date in range(size)]


def edited_through(book, edits):
    """The book behind the edits, done one after another."""
    return books_through(book, edits)[-1]


def books_through(book, edits):
    """The book, and the book behind each of the edits, done one after another."""
    if not isinstance(edits, (list, tuple)):
        raise BadEdit(-1)
    books = [book]
    for index, edit in enumerate(edits):
        if not _can_be_done(books[-1], edit):
            raise BadEdit(index)
        books.append(edited_book(books[-1], edit))
    return tuple(books)


def led_back(book, edit, dating):
    """The standing of the dates of the book that belongs to this one of the dates of the edited book."""
    ranks = check_standing(dating, edited_book(book, edit).size)
    if edit[0] == "tie":
        return tuple([ranks[date] for date in _numbers_behind_tie(book.size, edit[1], edit[2])])
    if edit[0] == "date":
        return cut_down(ranks, tuple(range(book.size)))
    return turned_standing(ranks) if edit[0] == "turn" else ranks
