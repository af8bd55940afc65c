"""Relations made of relations: other places, places made equal, definitions ([2.4], [2.5], [2.7])."""

from earliestlots.countings import all_standings
from earliestlots.dates import check_dates, unlike_dates
from earliestlots.errors import BadCount, BadDates, BadParts, BadPlaces, TooMany
from earliestlots.relations import MOST_RELATED, Relation
from earliestlots.standings import MOST_PLACES, check_places, cut_down, is_whole, standing_of

MOST_DEFINED = 5
MOST_PARTS = 6


def renamed(relation, places):
    """The relation in which place i is the old place places[i]."""
    named = check_places(places, relation.places)
    if len(named) != relation.places:
        raise BadPlaces(-1)
    return _cut_relation(relation, named)


def without_place(relation, place):
    """The relation of the members cut down to the other places."""
    if not is_whole(place, 0, relation.places - 1):
        raise BadPlaces(0)
    return _cut_relation(relation, [other for other in range(relation.places) if other != place])


def _cut_relation(relation, places):
    """The relation of the members cut down to these places."""
    return Relation(len(places), [cut_down(member, places) for member in relation])


def set_beside(one, other):
    """The relation of one's places followed by other's, free to one another."""
    places = one.places + other.places
    if places > MOST_RELATED:
        raise TooMany(MOST_RELATED)
    members = [
        ranks for ranks in all_standings(places)
        if _shows_member(one, ranks[:one.places]) and _shows_member(other, ranks[one.places:])]
    return Relation(places, members)


def _shows_member(relation, ranks):
    """Whether the ranks, renumbered without gaps, are a member."""
    return relation.holds(standing_of(ranks))


def made_equal(relation, dates):
    """The relation of the unlike dates whose members tie all places of one date, and these dates."""
    asked = check_dates(dates, MOST_PLACES)
    if len(asked) != relation.places:
        raise BadDates(-1)
    unlike = unlike_dates(asked)
    firsts = [asked.index(date) for date in unlike]
    members = [[member[place] for place in firsts] for member in relation if _ties_dates(member, asked)]
    return (Relation(len(unlike), members), unlike)


def _ties_dates(member, dates):
    """Whether all places of one date are tied."""
    return all([rank == member[dates.index(date)] for rank, date in zip(member, dates)])


def defined_by(size, parts, shown):
    """The relation of what the standings that fit every part show at the dates shown."""
    if not is_whole(size, 0, MOST_DEFINED):
        raise BadCount("size")
    if not isinstance(parts, (list, tuple)) or len(parts) > MOST_PARTS:
        raise BadParts(-1)
    for index, part in enumerate(parts):
        if not _is_part(part, size):
            raise BadParts(index)
    places = check_places(shown, size)
    if len(places) > MOST_RELATED:
        raise TooMany(MOST_RELATED)
    fitting = [ranks for ranks in all_standings(size) if _fits_parts(ranks, parts)]
    return Relation(len(places), [cut_down(ranks, places) for ranks in fitting])


def _is_part(part, size):
    """Whether this is a couple of a relation and as many dates below size."""
    if not isinstance(part, (list, tuple)) or len(part) != 2:
        return False
    relation, dates = part
    if not isinstance(relation, Relation) or not isinstance(dates, (list, tuple)):
        return False
    return len(dates) == relation.places and all([is_whole(date, 0, size - 1) for date in dates])


def _fits_parts(ranks, parts):
    """Whether the standing fits every part."""
    return all([_shows_member(relation, [ranks[date] for date in dates]) for relation, dates in parts])
