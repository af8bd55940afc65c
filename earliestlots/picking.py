"""Picking facts of a pool by which a book grants wishes ([9.5])."""

from earliestlots.alldatings import all_datings
from earliestlots.books import fact_fault, fits_fact
from earliestlots.errors import BadPool, BadWish, TooMany
from earliestlots.following import MOST_FOLLOWED, check_small
from earliestlots.mends import lots_of_numbers, misfits_of

MOST_POOLED = 5
MOST_WISHES = 4

# How many items a wish of this word has.
WISH_ITEMS = {"dated": 1, "not dated": 1, "surely": 2, "may be": 2}


def pick_facts(book, pool, wishes):
    """The first lot of entries of the pool with which the book grants all wishes, or None."""
    check_small(book, MOST_FOLLOWED)
    _check_pool(book, pool)
    _check_wishes(book, wishes)
    # Datings with the same misfits in the pool that fit the same facts of wishes need be looked at once only.
    rows = sorted({(misfits_of(pool, ranks), _fitted_wishes(wishes, ranks)) for ranks in all_datings(book)})
    for lot in lots_of_numbers(len(pool)):
        fitted = [fits for misfits, fits in rows if not any([number in lot for number in misfits])]
        if all([_is_granted(wish[0], index, fitted) for index, wish in enumerate(wishes)]):
            return lot
    return None


def _check_pool(book, pool):
    """BadPool, or TooMany if the book and the pool have too many facts together."""
    if not isinstance(pool, (list, tuple)) or not 1 <= len(pool) <= MOST_POOLED:
        raise BadPool(-1)
    for index, fact in enumerate(pool):
        if fact_fault(fact, book.size) is not None:
            raise BadPool(index)
    if len(book) + len(pool) > MOST_FOLLOWED:
        raise TooMany(MOST_FOLLOWED)


def _check_wishes(book, wishes):
    """BadWish if these are no wishes about the dates of the book."""
    if not isinstance(wishes, (list, tuple)) or not 1 <= len(wishes) <= MOST_WISHES:
        raise BadWish(-1)
    for index, wish in enumerate(wishes):
        if not _is_wish(wish, book.size):
            raise BadWish(index)


def _is_wish(wish, size):
    """Whether this has one of the four forms, with a fact about dates below size."""
    if not isinstance(wish, (list, tuple)) or len(wish) == 0 or not isinstance(wish[0], str):
        return False
    if WISH_ITEMS.get(wish[0]) != len(wish):
        return False
    return len(wish) == 1 or fact_fault(wish[1], size) is None


def _fitted_wishes(wishes, ranks):
    """The numbers of the wishes whose fact the standing fits."""
    return tuple([index for index, wish in enumerate(wishes) if len(wish) == 2 and fits_fact(wish[1], ranks)])


def _is_granted(word, index, fitted):
    """Whether the wish of this word is granted by datings that fit the facts of the wishes numbered so."""
    if word == "dated":
        return len(fitted) > 0
    if word == "not dated":
        return len(fitted) == 0
    held = [index in fits for fits in fitted]
    return all(held) if word == "surely" else any(held)
