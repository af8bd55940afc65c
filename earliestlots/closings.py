"""Whether earliest lots are closed, and what is so kept by a deed ([4.7] to [4.9])."""

from earliestlots.dates import check_lot, sorted_lots
from earliestlots.deeds import check_deed
from earliestlots.errors import BadDeed, BadLot, BadSpoilt, NoLot
from earliestlots.keeps import Broken
from earliestlots.linings import BOTH, ONE_ALONE, OTHER_ALONE
from earliestlots.lots import check_closing, closing_of, combined_lots, earliest_lots, lot_as_places, rest_after
from earliestlots.rests import ascending_lots, least_beginning, named_places, over_by_lots, rows_of_lots
from earliestlots.standings import ranks_number


class SpoiltAt:
    """A deed, lots taken, and two earliest lots of what is left with their combined lot, which is none."""

    def __init__(self, deed, before, pair):
        self.deed = deed
        self.before = before
        self.pair = pair

    def __eq__(self, other):
        return (isinstance(other, SpoiltAt) and self.deed == other.deed and self.before == other.before
                and self.pair == other.pair)


def lacking_pair(lots, closing):
    """None if the lots are closed, else the first two whose combined lot is none of them, and that lot."""
    check_closing(closing)
    known = sorted_lots(lots)
    for index, one in enumerate(known):
        for other in known[index + 1:]:
            combined = combined_lots(closing, one, other)
            # Only a meet can be empty, and two lots without a common place need none.
            if len(combined) > 0 and combined not in known:
                return (one, other, combined)
    return None


def kept_by_lots(relation, deed):
    """Whether the deed keeps the relation, judged without linings."""
    return spoilt_at(relation, deed) is None and over_by_lots(relation)


def spoilt_at(relation, deed):
    """None if the earliest lots of all rests are closed, else the first place where they are not."""
    closing = closing_of(deed)
    for before, left, rest in rows_of_lots(relation):
        pair = lacking_pair([named_places(left, lot) for lot in earliest_lots(rest)], closing)
        if pair is not None:
            return SpoiltAt(deed, before, pair)
    return None


def spoilt_fault(relation, spoilt):
    """None if the lots show that the deed does not keep the relation, else the first wrong."""
    try:
        check_deed(spoilt.deed)
    except BadDeed:
        return "deed"
    try:
        left, rest = rest_after(relation, spoilt.before)
    except NoLot:
        return "before"
    return _pair_fault(left, rest, spoilt)


def _pair_fault(left, rest, spoilt):
    """None if the pair is of two earliest lots of the rest that lack their combined lot, else the first wrong."""
    if not isinstance(spoilt.pair, (list, tuple)) or len(spoilt.pair) != 3:
        return "pair"
    one, other, lacking = spoilt.pair
    lots = [lot_as_places(rest, left, one), lot_as_places(rest, left, other)]
    if None in lots or lots[0] == lots[1]:
        return "pair"
    if not _holds_just(lacking, combined_lots(closing_of(spoilt.deed), one, other)):
        return "lacking"
    if lot_as_places(rest, left, lacking) is not None:
        return "kept"
    return None


def _holds_just(lot, places):
    """Whether this is a lot of just these places, in any order."""
    try:
        return check_lot(lot, places) == places
    except BadLot:
        return False


def broken_from(relation, spoilt):
    """Two members and a lining along which, by the spoilt lots, the deed makes no member."""
    fault = spoilt_fault(relation, spoilt)
    if fault is not None:
        raise BadSpoilt(fault)
    before = ascending_lots(spoilt.before)
    one = least_beginning(relation, before + ascending_lots(spoilt.pair[:1]))
    other = least_beginning(relation, before + ascending_lots(spoilt.pair[1:2]))
    together = len(before) + 1
    ones = (ONE_ALONE,) * (ranks_number(one) - together)
    others = (OTHER_ALONE,) * (ranks_number(other) - together)
    return Broken(one, other, (BOTH,) * together + ones + others)
