"""All standings of some places, how many they are, and their numbers ([1.7])."""

from earliestlots.errors import BadCount, BadNumber
from earliestlots.standings import check_standing, is_whole

MOST_LISTED = 6
MOST_COUNTED = 40
MOST_NUMBERED = 7


def choose_of(many, taken):
    """In how many ways so many things are taken of many."""
    if taken < 0 or taken > many:
        return 0
    ways = 1
    for done in range(taken):
        ways = ways * (many - done) // (done + 1)
    return ways


def power_of(base, exponent):
    """The power of the base by an exponent from 0."""
    power = 1
    for _ in range(exponent):
        power = power * base
    return power


def all_standings(places):
    """All standings of so many places, ascending."""
    if not is_whole(places, 0, MOST_LISTED):
        raise BadCount("places")
    yield from _standings_behind((), places)


def _standings_behind(begun, places):
    """All standings of so many places that begin so, ascending."""
    if len(begun) == places:
        yield begun
        return
    for rank in range(places):
        longer = begun + (rank,)
        gaps = max(longer) + 1 - len(set(longer))
        if gaps <= places - len(longer):
            yield from _standings_behind(longer, places)


def count_standings(places):
    """How many standings of so many places there are."""
    if not is_whole(places, 0, MOST_COUNTED):
        raise BadCount("places")
    return _begun_count((), places)


def _begun_count(begun, places):
    """How many standings of so many places begin so."""
    unlike = len(set(begun))
    left = places - len(begun)
    least = max(begun, default=-1) + 1
    return sum([_covering_rows(ranks, ranks - unlike, left) for ranks in range(least, unlike + left + 1)])


def _covering_rows(ranks, needed, left):
    """How many rows of left ranks, all below ranks, use each of so many needed ranks."""
    total = 0
    for dropped in range(needed + 1):
        rows = choose_of(needed, dropped) * power_of(ranks - dropped, left)
        # Rows that drop an odd number of needed ranks were counted once too often.
        total = total - rows if dropped & 1 else total + rows
    return total


def number_of_standing(standing):
    """The number of the standing among all of so many places, ascending."""
    ranks = check_standing(standing)
    number = 0
    for place, rank in enumerate(ranks):
        for lesser in range(rank):
            number += _begun_count(ranks[:place] + (lesser,), len(ranks))
    return number


def standing_of_number(places, number):
    """The standing of so many places that has this number."""
    if not is_whole(places, 0, MOST_NUMBERED):
        raise BadCount("places")
    if not is_whole(number, 0, count_standings(places) - 1):
        raise BadNumber()
    ranks = ()
    left = number
    while len(ranks) < places:
        rank = 0
        begun = _begun_count(ranks + (rank,), places)
        while left >= begun:
            left -= begun
            rank += 1
            begun = _begun_count(ranks + (rank,), places)
        ranks = ranks + (rank,)
    return ranks
