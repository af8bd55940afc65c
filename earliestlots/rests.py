"""The rests of a relation, and the strays that show that it cannot be taken over ([4.4] to [4.6])."""

from earliestlots.errors import BadStray, NoLot
from earliestlots.keeps import BrokenOver
from earliestlots.lots import earliest_lots, lot_as_places, places_outside, rest_after, rest_by
from earliestlots.standings import cut_down, layers_of, standing_of_layers


class Stray:
    """Lots taken, a further lot, and a member of what is left that cannot go on behind that lot."""

    def __init__(self, before, lot, standing):
        self.before = before
        self.lot = lot
        self.standing = standing

    def __eq__(self, other):
        return (isinstance(other, Stray) and self.before == other.before and self.lot == other.lot
                and self.standing == other.standing)


def rows_of_lots(relation):
    """All (lots taken, places left, rest) with a place left, by the lots, a beginning ahead of what continues it."""
    if relation.places == 0:
        return []
    return _rows_behind((), tuple(range(relation.places)), relation)


def _rows_behind(before, left, rest):
    """This row and all rows that continue it."""
    rows = [(before, left, rest)]
    for lot in earliest_lots(rest):
        others = named_places(left, places_outside(rest, lot))
        if len(others) > 0:
            rows.extend(_rows_behind(before + (named_places(left, lot),), others, rest_by(rest, lot)))
    return rows


def named_places(left, places):
    """Places of a rest, named as the places left are."""
    return tuple([left[place] for place in places])


def all_rests(relation):
    """The unlike couples (places left, rest) of the relation and all its rests, ascending."""
    found = {(left, rest.members): rest for _, left, rest in rows_of_lots(relation)}
    return tuple([(left, found[left, members]) for left, members in sorted(found)])


def stray_at(relation):
    """The first stray of the relation, or None."""
    for before, left, rest in rows_of_lots(relation):
        for lot in earliest_lots(rest):
            standing = _first_not_behind(rest, lot, rest.members)
            if standing is not None:
                return Stray(before, named_places(left, lot), standing)
    return None


def _first_not_behind(rest, lot, members):
    """The first of the members that, cut down to the places outside the lot, is not in the rest by it, or None."""
    behind = rest_by(rest, lot)
    others = places_outside(rest, lot)
    for member in members:
        if not behind.holds(cut_down(member, others)):
            return member
    return None


def over_by_lots(relation):
    """Whether the relation can be taken over: it has no stray."""
    return stray_at(relation) is None


def stray_fault(relation, stray):
    """None if this is a stray of the relation, else the first wrong."""
    try:
        left, rest = rest_after(relation, stray.before)
    except NoLot:
        return "before"
    lot = lot_as_places(rest, left, stray.lot)
    if lot is None:
        return "lot"
    if not rest.holds(stray.standing):
        return "standing"
    if _first_not_behind(rest, lot, (stray.standing,)) is None:
        return "kept"
    return None


def over_from(relation, stray):
    """Two members and a cut at which, by the stray, one taken over by other is no member."""
    fault = stray_fault(relation, stray)
    if fault is not None:
        raise BadStray(fault)
    before = ascending_lots(stray.before)
    left, _ = rest_after(relation, before)
    one = least_beginning(relation, before + ascending_lots([stray.lot]))
    behind = tuple([named_places(left, layer) for layer in layers_of(stray.standing)])
    return BrokenOver(one, len(before) + 1, standing_of_layers(before + behind))


def ascending_lots(lots):
    """The lots in their order, each ascending."""
    return tuple([tuple(sorted(lot)) for lot in lots])


def least_beginning(relation, lots):
    """The least member whose first layers are these lots, or None."""
    for member in relation:
        if layers_of(member)[:len(lots)] == lots:
            return member
    return None
