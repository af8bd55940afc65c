"""The deeds lesser, odd and common, and taking over ([3.6] to [3.8])."""

from earliestlots.errors import BadCut, BadDeed, OtherPlaces, TooMany
from earliestlots.linings import ONE_ALONE, OTHER_ALONE, all_linings, check_lining, rank_moments
from earliestlots.standings import check_standing, is_whole, ranks_number, standing_of

DEEDS = ("lesser", "odd", "common")
MOST_MADE = 4


def check_deed(deed):
    """The deed; BadDeed for anything else."""
    if deed not in DEEDS:
        raise BadDeed()
    return deed


def _place_key(deed, first, second):
    """What the deed ranks a place by that has these moments."""
    # One number sorts like the couple of the lesser moment and a number below 3.
    key = 3 * min(first, second)
    if deed == "odd" and first == second:
        return key + 1
    if deed == "common" and first != second:
        return key + 1 if second < first else key + 2
    return key


def deed_table(deed, lining):
    """The key of a place for each rank in one and, within, each rank in other; nothing is checked."""
    firsts, seconds = rank_moments(lining)
    return tuple([tuple([_place_key(deed, first, second) for second in seconds]) for first in firsts])


def made_by_table(table, one, other):
    """The standing that a deed with this table makes of the two; nothing is checked."""
    return standing_of([table[rank][beside] for rank, beside in zip(one, other)])


def made_by(deed, one, other, lining):
    """The standing that the deed makes of the two along the lining."""
    check_deed(deed)
    return made_by_table(deed_table(deed, check_lining(one, other, lining)), one, other)


def check_over(one, cut, other):
    """The errors of taking over."""
    ranks = ranks_number(one)
    if not is_whole(cut, 0, ranks):
        raise BadCut()
    check_standing(other)
    if len(one) != len(other):
        raise OtherPlaces()


def taken_over(one, cut, other):
    """One's ranks below the cut, then all other places as they stand in other."""
    check_over(one, cut, other)
    return over_of(one, cut, other)


def over_of(one, cut, other):
    """What taken_over returns; nothing is checked."""
    return standing_of([(0, rank) if rank < cut else (1, beside) for rank, beside in zip(one, other)])


def over_lining(one, cut, other):
    """The lining with one's ranks below the cut, then other's, then the other ranks of one."""
    check_over(one, cut, other)
    behind = ranks_number(one) - cut
    return (ONE_ALONE,) * cut + (OTHER_ALONE,) * ranks_number(other) + (ONE_ALONE,) * behind


def _check_alike(standings):
    """The errors of standings that must have one number of places, at most 4."""
    for standing in standings:
        check_standing(standing)
    for standing in standings:
        if len(standing) != len(standings[0]):
            raise OtherPlaces()
    if len(standings[0]) > MOST_MADE:
        raise TooMany(MOST_MADE)


def lining_tables(deed, first, second):
    """For each lining of so many ranks, ascending, the lining and its table; nothing is checked."""
    return [(lining, deed_table(deed, lining)) for lining in all_linings(first, second)]


def all_made(deed, one, other):
    """All unlike standings that the deed makes of the two, ascending."""
    check_deed(deed)
    _check_alike((one, other))
    tables = lining_tables(deed, ranks_number(one), ranks_number(other))
    return tuple(sorted({made_by_table(table, one, other) for _, table in tables}))


def lining_for(deed, one, other, wanted):
    """The least lining along which the deed makes what is wanted, or None."""
    check_deed(deed)
    _check_alike((one, other, wanted))
    goal = tuple(wanted)
    for lining, table in lining_tables(deed, ranks_number(one), ranks_number(other)):
        if made_by_table(table, one, other) == goal:
            return lining
    return None
