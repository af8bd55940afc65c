"""What the tests about edits need: some edits, and the words of the document about them."""

from earliestlots.books import Book
from earliestlots.named import before_relation
from earliestlots.relations import Relation
from tests.helper import NO_FACTS, NO_NUMBERS, NO_SEQUENCES, ranked, some_fact, standings_by_trying

BEFORE = before_relation()

# None of these is an edit of any book.
NEVER_EDITS = NO_SEQUENCES + (
    (), [], "turn", ("turned",), ("Turn",), (None,), (["turn"],), ("add",), ("drop",), ("narrow",), ("tie",),
    ("turn", 0), ("turn", ()), ("date", 0), ("date", None), ("add", BEFORE), ("add", (BEFORE, (0, 1))),
    ("add", BEFORE, (0, 1), 0), ("add", BEFORE, 0, 1), ("drop", 0, 0), ("narrow", 0), ("narrow", BEFORE),
    ("narrow", 0, BEFORE, 0), ("narrow", 0, BEFORE, (0, 1)), ("tie", 0), ("tie", (0, 1)), ("tie", 0, 1, 2),
    ("tie", 0, 0), ("tie", 1, 1), ({"turn"},), {"turn"}, {"turn": 1}, (("turn",),), ("", 0))


def bad_edits():
    """Edits that cannot be done to a book of the dates 0 and 1 and the fact "before" over them."""
    edits = list(NEVER_EDITS)
    for wrong in NO_NUMBERS + (1, 12):
        edits += [("drop", wrong), ("narrow", wrong, BEFORE)]
    for wrong in NO_NUMBERS + (2, 7):
        edits += [("tie", wrong, 0), ["tie", 1, wrong]]
    edits += [("narrow", 0, wrong) for wrong in (None, (0, 1), [(0, 1)], Relation(1, [(0,)]), Relation(3, ()), "before")]
    return edits + [["add", *fact] for fact, _ in NO_FACTS if isinstance(fact, (list, tuple)) and len(fact) == 2]


def can_be_done(book, word):
    """Whether some edit of this word can be done to the book."""
    if word == "add":
        return book.size > 0 and len(book) < 12
    if word in ("drop", "narrow"):
        return len(book) > 0
    if word == "tie":
        return book.size > 1
    return word == "turn" or book.size < 7


def some_edit(picker, book, words=("add", "drop", "narrow", "tie", "date", "turn"), way="any"):
    """An edit of the book; its relations are kept so, where this is asked for."""
    word = picker.choice([word for word in words if can_be_done(book, word)])
    if word == "add":
        relation, dates = some_fact(picker, way, book.size)
        return ("add", relation, tuple(dates))
    if word == "drop":
        return ("drop", picker.randrange(len(book)))
    if word == "narrow":
        number = picker.randrange(len(book))
        places = book.facts[number][0].places
        members = standings_by_trying(places)
        return ("narrow", number, Relation(places, picker.sample(members, picker.randint(len(members) // 2, len(members)))))
    if word == "tie":
        return ("tie", *picker.sample(range(book.size), 2))
    return (word,)


def turned_as_told(standing):
    """The standing turned round."""
    return tuple(max(standing, default=0) - rank for rank in standing)


def new_number(edit, date):
    """The number of a date behind a tie."""
    low, high = sorted(edit[1:])
    if date == high:
        return low
    return date - 1 if date > high else date


def edited_as_told(book, edit):
    """The book behind the edit, by the words of [10.1]."""
    facts = list(book.facts)
    if edit[0] == "add":
        return Book(book.size, facts + [(edit[1], edit[2])])
    if edit[0] == "drop":
        return Book(book.size, [fact for number, fact in enumerate(facts) if number != edit[1]])
    if edit[0] == "narrow":
        relation, dates = facts[edit[1]]
        members = sorted(set(relation.members) & set(edit[2].members))
        facts[edit[1]] = (Relation(relation.places, members), dates)
        return Book(book.size, facts)
    if edit[0] == "tie":
        return Book(book.size - 1, [
            (relation, [new_number(edit, date) for date in dates]) for relation, dates in facts])
    if edit[0] == "date":
        return Book(book.size + 1, facts)
    return Book(book.size, [
        (Relation(relation.places, [turned_as_told(row) for row in relation]), dates) for relation, dates in facts])


def led_as_told(book, edit, dating):
    """The standing led back, by the words of [10.3]."""
    if edit[0] == "tie":
        return tuple(dating[new_number(edit, date)] for date in range(book.size))
    if edit[0] == "date":
        return ranked(dating[:-1])
    return turned_as_told(dating) if edit[0] == "turn" else tuple(dating)
