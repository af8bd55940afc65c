"""Books written and read as texts ([1.11], [1.12])."""

from earliestlots.books import MOST_FACTS, Book
from earliestlots.errors import BadText
from earliestlots.relations import MOST_RELATED, Relation
from earliestlots.standtext import standing_text, standing_of_text

SIZES = ("0", "1", "2", "3", "4", "5", "6", "7")
HEAD = "dates "
NO_MEMBERS = "none"


def book_text(book):
    """The size in a first row, then a row for each fact."""
    rows = [f"{HEAD}{book.size}"]
    for relation, dates in book.facts:
        named = " ".join([str(date) for date in dates])
        members = ", ".join([standing_text(member) for member in relation])
        # The relations of a book have places, so that no member is written as an empty text.
        rows.append(f"{named}: {members or NO_MEMBERS}")
    return "\n".join(rows)


def book_of_text(text):
    """The book that book_text writes so; BadText for every other value."""
    if not isinstance(text, str):
        raise BadText(-1)
    rows = text.split("\n")
    size = _size_of_row(rows[0])
    if size is None:
        raise BadText(0)
    facts = []
    for number, row in enumerate(rows[1:], start=1):
        fact = _fact_of_row(row, size)
        if fact is None or number > MOST_FACTS:
            raise BadText(number)
        facts.append(fact)
    return Book(size, facts)


def _size_of_row(row):
    """The size that the first row tells, or None."""
    sign = row[len(HEAD):]
    if not row.startswith(HEAD) or sign not in SIZES:
        return None
    return int(sign)


def _fact_of_row(row, size):
    """The fact that the row tells about dates below size, or None."""
    parts = row.split(": ")
    if len(parts) != 2:
        return None
    words = parts[0].split(" ")
    if len(words) > MOST_RELATED or not all([word in SIZES[:size] for word in words]):
        return None
    members = _members_of_text(parts[1], len(words))
    if members is None:
        return None
    return (Relation(len(words), members), [int(word) for word in words])


def _members_of_text(text, places):
    """The standings of so many places that the text lists in ascending order, or None."""
    if text == NO_MEMBERS:
        return []
    members = []
    for part in text.split(", "):
        try:
            standing = standing_of_text(part)
        except BadText:
            return None
        if len(standing) != places or (len(members) > 0 and standing <= members[-1]):
            return None
        members.append(standing)
    return members
