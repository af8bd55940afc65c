"""Linings: in which order the ranks of two standings come ([3.1] to [3.5])."""

from earliestlots.errors import BadCount, BadLining, OtherPlaces
from earliestlots.standings import check_places, is_whole, ranks_number

# The entries of a lining: the next rank of one alone, that of other alone, or both together.
ONE_ALONE = 0
OTHER_ALONE = 1
BOTH = 2

MOST_LINED = 5
MOST_COUNTED = 40


def _check_rank_counts(first, second, most):
    """BadCount for the first one that is no number from 0 to most."""
    if not is_whole(first, 0, most):
        raise BadCount("first")
    if not is_whole(second, 0, most):
        raise BadCount("second")


def all_linings(first, second):
    """All linings of two standings with so many ranks, ascending."""
    _check_rank_counts(first, second, MOST_LINED)
    yield from _linings_behind((), first, second)


def _linings_behind(begun, first, second):
    """All linings that begin so and go on with so many ranks of each, ascending."""
    if first == 0 and second == 0:
        yield begun
    if first > 0:
        yield from _linings_behind(begun + (ONE_ALONE,), first - 1, second)
    if second > 0:
        yield from _linings_behind(begun + (OTHER_ALONE,), first, second - 1)
    if first > 0 and second > 0:
        yield from _linings_behind(begun + (BOTH,), first - 1, second - 1)


def count_linings(first, second):
    """How many linings there are of two standings with so many ranks."""
    _check_rank_counts(first, second, MOST_COUNTED)
    row = [1] * (second + 1)
    for _ in range(first):
        longer = [1]
        for at in range(second):
            longer.append(longer[at] + row[at] + row[at + 1])
        row = longer
    return row[second]


def check_lining(one, other, lining):
    """The lining as a tuple; an error if it is no lining of the two standings."""
    first = ranks_number(one)
    second = ranks_number(other)
    if len(one) != len(other):
        raise OtherPlaces()
    if not isinstance(lining, (list, tuple)):
        raise BadLining(-1)
    for index, entry in enumerate(lining):
        if not is_whole(entry, ONE_ALONE, BOTH):
            raise BadLining(index)
        if entry != OTHER_ALONE:
            first -= 1
        if entry != ONE_ALONE:
            second -= 1
        if first < 0 or second < 0:
            raise BadLining(index)
    if first > 0 or second > 0:
        raise BadLining(-1)
    return tuple(lining)


def is_lining(one, other, lining):
    """Whether this is a lining of the two standings of as many places."""
    try:
        check_lining(one, other, lining)
    except BadLining:
        return False
    return True


def rank_moments(lining):
    """The moments of one's ranks, and those of other's ranks."""
    firsts = [moment for moment, entry in enumerate(lining) if entry != OTHER_ALONE]
    seconds = [moment for moment, entry in enumerate(lining) if entry != ONE_ALONE]
    return (firsts, seconds)


def moments_of(one, other, lining):
    """The moments a of all places, and their moments b."""
    firsts, seconds = rank_moments(check_lining(one, other, lining))
    return (tuple([firsts[rank] for rank in one]), tuple([seconds[rank] for rank in other]))


def lining_of(numbers, others):
    """The lining in which the unlike numbers of both come in ascending order."""
    if not isinstance(numbers, (list, tuple)) or not isinstance(others, (list, tuple)):
        raise OtherPlaces()
    if len(numbers) != len(others):
        raise OtherPlaces()
    lining = []
    for number in sorted(set(numbers) | set(others)):
        if number not in others:
            lining.append(ONE_ALONE)
        elif number not in numbers:
            lining.append(OTHER_ALONE)
        else:
            lining.append(BOTH)
    return tuple(lining)


def cut_lining(one, other, lining, places):
    """The lining of both standings cut down, with the ranks still there in their old order."""
    firsts, seconds = moments_of(one, other, lining)
    kept = check_places(places, len(firsts))
    return lining_of([firsts[place] for place in kept], [seconds[place] for place in kept])
