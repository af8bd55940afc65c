"""Works that wait for one or for all of some works ([7.7] to [7.9])."""

from earliestlots.books import Book
from earliestlots.dates import check_dates
from earliestlots.errors import BadWorks, TooMany
from earliestlots.named import after_all_of, after_one_of
from earliestlots.standings import MOST_PLACES, is_whole

MOST_AWAITED = 3


class Works:
    """A wait for each work: for none, for one of some works, or for all of them."""

    def __init__(self, waits):
        if not isinstance(waits, (list, tuple)) or len(waits) > MOST_PLACES:
            raise BadWorks(-1)
        for index, wait in enumerate(waits):
            if not _is_wait(wait, len(waits)):
                raise BadWorks(index)
        self.waits = tuple([_ascending_wait(wait) for wait in waits])

    def __len__(self):
        return len(self.waits)

    def __eq__(self, other):
        return isinstance(other, Works) and self.waits == other.waits


def _is_wait(wait, many):
    """Whether this is a wait of one of so many works."""
    if not isinstance(wait, (list, tuple)) or len(wait) == 0:
        return False
    if wait[0] == "none":
        return len(wait) == 1
    return wait[0] in ("one", "all") and len(wait) == 2 and _are_works(wait[1], many)


def _are_works(works, many):
    """Whether this is a list or tuple of one or more unlike work numbers below many."""
    if not isinstance(works, (list, tuple)) or len(works) == 0:
        return False
    return all([is_whole(work, 0, many - 1) and work not in works[:index] for index, work in enumerate(works)])


def _ascending_wait(wait):
    """The wait as a tuple, its works ascending."""
    if wait[0] == "none":
        return ("none",)
    return (wait[0], tuple(sorted(wait[1])))


def rounds_of(works):
    """For each work the round in which it begins, or None."""
    rounds = [None] * len(works)
    for number in range(len(works)):
        beginning = [work for work, wait in enumerate(works.waits) if rounds[work] is None and _is_over(wait, rounds)]
        for work in beginning:
            rounds[work] = number
    return tuple(rounds)


def _is_over(wait, rounds):
    """Whether the wait is over when the works that have a round have begun."""
    if wait[0] == "none":
        return True
    begun = [rounds[work] is not None for work in wait[1]]
    return any(begun) if wait[0] == "one" else all(begun)


def is_knot(works, numbers):
    """Whether the works numbered so wait for one another without end."""
    inside = check_dates(numbers, len(works))
    return all([_waits_within(works.waits[work], inside) for work in inside])


def _waits_within(wait, inside):
    """Whether the wait cannot be over before one of the works inside begins."""
    if wait[0] == "none":
        return False
    held = [work in inside for work in wait[1]]
    return all(held) if wait[0] == "one" else any(held)


def greatest_knot(works):
    """All works that stand in some knot, ascending."""
    # These are just the works that never begin.
    return tuple([work for work, number in enumerate(rounds_of(works)) if number is None])


def works_book(works):
    """The book with a date for each work and a fact for each work that waits."""
    waiting = [(work, wait) for work, wait in enumerate(works.waits) if wait[0] != "none"]
    for _, wait in waiting:
        if len(wait[1]) > MOST_AWAITED:
            raise TooMany(MOST_AWAITED)
    return Book(len(works), [_waiting_fact(work, wait) for work, wait in waiting])


def _waiting_fact(work, wait):
    """The fact that says how the work waits."""
    word, awaited = wait
    if word == "one":
        return (after_one_of(len(awaited) + 1), (work,) + awaited)
    if work in awaited:
        # Made equal over all of them, the fact would still say something of the others.
        return (after_all_of(2), (work, work))
    return (after_all_of(len(awaited) + 1), (work,) + awaited)
