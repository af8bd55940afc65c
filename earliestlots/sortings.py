"""Standings sorted over one another ([8.9])."""

from earliestlots.deeds import check_over
from earliestlots.standings import ranks_number, standing_of


class BrokenSorting:
    """Two members and a cut at which one sorted over other is no member."""

    def __init__(self, one, cut, other):
        self.one = one
        self.cut = cut
        self.other = other

    def __eq__(self, other):
        return (isinstance(other, BrokenSorting) and self.one == other.one and self.cut == other.cut
                and self.other == other.other)


def sorted_over(one, cut, other):
    """One's ranks below the cut, sorted further by other, then the other places by other, sorted further by one."""
    check_over(one, cut, other)
    return _sorting_of(one, cut, other)


def _sorting_of(one, cut, other):
    """What sorted_over returns; nothing is checked."""
    return standing_of([(0, rank, beside) if rank < cut else (1, beside, rank) for rank, beside in zip(one, other)])


def broken_sorting(relation):
    """None, or the first two members and cut at which one sorted over other is no member."""
    known = {member: True for member in relation}
    for one in relation:
        for cut in range(ranks_number(one) + 1):
            for other in relation:
                if _sorting_of(one, cut, other) not in known:
                    return BrokenSorting(one, cut, other)
    return None
