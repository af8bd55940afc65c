"""Earliest lots, rests and what lots have in common ([4.1] to [4.3], [4.7], [4.10], [4.11])."""

from earliestlots.dates import check_lot, sorted_lots
from earliestlots.deeds import check_deed
from earliestlots.errors import BadClosing, BadLot, NoLot
from earliestlots.relations import Relation
from earliestlots.standings import cut_down, front_of

CLOSINGS = {"lesser": "joining", "odd": "sums", "common": "meets"}


def earliest_lots(relation):
    """The fronts of the members, each once, in the order of lots."""
    if relation.places == 0:
        return ()
    return sorted_lots([front_of(member) for member in relation])


def rest_by(relation, lot):
    """The members with just this front, cut down to the other places."""
    taken = lot_as_places(relation, tuple(range(relation.places)), lot)
    if taken is None:
        raise NoLot(0)
    return _rest_by_lot(relation, taken)


def lot_as_places(rest, left, lot):
    """The lot as places of the rest if it can be taken there, else None; left are the rest's places as named."""
    try:
        named = check_lot(lot, left)
    except BadLot:
        return None
    taken = tuple([left.index(place) for place in named])
    return taken if taken in earliest_lots(rest) else None


def _rest_by_lot(relation, lot):
    """The rest by an earliest lot; nothing is checked."""
    others = places_outside(relation, lot)
    return Relation(len(others), [cut_down(member, others) for member in relation if front_of(member) == lot])


def places_outside(relation, lot):
    """The places of the relation that are not in the lot, ascending."""
    return tuple([place for place in range(relation.places) if place not in lot])


def rest_after(relation, lots):
    """The places left and the rest when the lots are taken one after another."""
    if not isinstance(lots, (list, tuple)):
        raise NoLot(-1)
    left = tuple(range(relation.places))
    rest = relation
    for index, lot in enumerate(lots):
        taken = lot_as_places(rest, left, lot)
        if taken is None:
            raise NoLot(index)
        rest = _rest_by_lot(rest, taken)
        left = tuple([place for place in left if place not in lot])
    return (left, rest)


def check_closing(closing):
    """The closing; BadClosing for anything else."""
    if closing not in list(CLOSINGS.values()):
        raise BadClosing()
    return closing


def closing_of(deed):
    """The closing that belongs to the deed."""
    return CLOSINGS[check_deed(deed)]


def combined_lots(closing, one, other):
    """The places of the two lots, combined as the closing tells, ascending."""
    check_closing(closing)
    if closing == "joining":
        return tuple(sorted(set(one) | set(other)))
    if closing == "sums":
        return tuple(sorted(set(one) ^ set(other)))
    return tuple(sorted(set(one) & set(other)))


def greatest_within(lots, places):
    """All places of the lots that lie within the places, joined; None if no lot does."""
    within = [lot for lot in lots if _lies_in(lot, places)]
    if len(within) == 0:
        return None
    return tuple(sorted({place for lot in within for place in lot}))


def least_holding(lots, places):
    """What all lots that hold all of the places have in common; None if no lot does."""
    if len(places) == 0:
        return ()
    holding = [lot for lot in lots if _lies_in(places, lot)]
    if len(holding) == 0:
        return None
    return tuple([place for place in sorted(holding[0]) if all([place in lot for lot in holding])])


def _lies_in(places, others):
    """Whether all of the places are among the others."""
    return all([place in others for place in places])


def all_lots(places):
    """All lots of some of the places, in the order of lots."""
    rows = [()]
    for place in sorted(set(places)):
        rows = rows + [row + (place,) for row in rows]
    return sorted_lots(rows[1:])


def meets_evenly(one, other):
    """Whether the number of common places is even."""
    return len([place for place in one if place in other]) & 1 == 0


def equations_of(lots, places):
    """The lots of some of the places that each of the lots meets evenly, in the order of lots."""
    return tuple([row for row in all_lots(places) if all([meets_evenly(row, lot) for lot in lots])])
