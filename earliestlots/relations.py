"""Relations: sets of standings of 0 to 4 places ([2.1] to [2.3])."""

from earliestlots.countings import all_standings
from earliestlots.errors import BadCount, BadRelation, OtherPlaces, TooMany
from earliestlots.standings import check_standing, is_among, is_standing, is_whole, turned_standing

MOST_RELATED = 4


class Relation:
    """A number of places and the standings of so many places that are its members."""

    def __init__(self, places, standings):
        if not is_whole(places, 0, MOST_RELATED):
            raise BadRelation("places")
        if not isinstance(standings, (list, tuple)):
            raise BadRelation("standings")
        for standing in standings:
            if not is_standing(standing, places):
                raise BadRelation("standings")
        self.places = places
        self.members = tuple(sorted({tuple(standing) for standing in standings}))

    def __len__(self):
        return len(self.members)

    def __iter__(self):
        return iter(self.members)

    def __eq__(self, other):
        return isinstance(other, Relation) and self.places == other.places and self.members == other.members

    def holds(self, standing):
        """Whether this is a list or tuple with the ranks of a member."""
        return is_among(standing, self.members)


def _check_places_number(places):
    """BadCount if no relation has so many places."""
    if not is_whole(places, 0, MOST_RELATED):
        raise BadCount("places")


def full_relation(places):
    """The relation of all standings of so many places."""
    _check_places_number(places)
    return Relation(places, list(all_standings(places)))


def empty_relation(places):
    """The relation of so many places without members."""
    _check_places_number(places)
    return Relation(places, ())


def one_standing(standing):
    """The relation of this standing alone."""
    ranks = check_standing(standing)
    if len(ranks) > MOST_RELATED:
        raise TooMany(MOST_RELATED)
    return Relation(len(ranks), [ranks])


def _check_alike(one, other):
    """OtherPlaces if the numbers of places differ."""
    if one.places != other.places:
        raise OtherPlaces()


def meet_of(one, other):
    """The relation of what both relations have as members."""
    _check_alike(one, other)
    return Relation(one.places, [member for member in one if other.holds(member)])


def join_of(one, other):
    """The relation of what at least one of the relations has as a member."""
    _check_alike(one, other)
    return Relation(one.places, one.members + other.members)


def left_out(relation):
    """The relation of all standings of its places that are no members."""
    places = relation.places
    return Relation(places, [standing for standing in all_standings(places) if not relation.holds(standing)])


def turned_relation(relation):
    """The relation of the turned members."""
    return Relation(relation.places, [turned_standing(member) for member in relation])
