"""Clauses: a place is after some places, or after or with some others ([6.1] to [6.6])."""

from earliestlots.countings import all_standings
from earliestlots.errors import BadClause, BadCount, BadPlace, OtherPlaces
from earliestlots.relations import MOST_RELATED, Relation
from earliestlots.standings import MOST_PLACES, check_standing, is_whole


class Clause:
    """A place with its after places and its within places."""

    def __init__(self, place, after, within):
        if not is_whole(place, 0, MOST_PLACES - 1):
            raise BadClause("place")
        if not _are_other_places(after, (place,)):
            raise BadClause("after")
        if not _are_other_places(within, (place,) + tuple(after)):
            raise BadClause("within")
        self.place = place
        self.after = tuple(sorted(set(after)))
        self.within = tuple(sorted(set(within)))

    def __eq__(self, other):
        return (isinstance(other, Clause) and self.place == other.place and self.after == other.after
                and self.within == other.within)

    @property
    def width(self):
        """How many after and within places there are."""
        return len(self.after) + len(self.within)


def _are_other_places(places, barred):
    """Whether this is a list or tuple of places that are not barred."""
    if not isinstance(places, (list, tuple)):
        return False
    return all([is_whole(place, 0, MOST_PLACES - 1) and place not in barred for place in places])


def clause_key(clause):
    """What the clauses are ordered by."""
    return (clause.place, clause.width, clause.after, clause.within)


def sorted_clauses(clauses):
    """The unlike clauses, in the order of clauses."""
    known = {clause_key(clause): clause for clause in clauses}
    return tuple([known[key] for key in sorted(known)])


def clause_places(clause):
    """The clause's place, its after and its within places, ascending."""
    return tuple(sorted((clause.place,) + clause.after + clause.within))


def _check_places_number(places):
    """BadCount if clauses are not listed for so many places."""
    if not is_whole(places, 1, MOST_RELATED):
        raise BadCount("places")


def all_clauses(places):
    """All clauses whose places are below the number, in the order of clauses."""
    _check_places_number(places)
    for place in range(places):
        yield from _clauses_at(place, [other for other in range(places) if other != place])


def _clauses_at(place, others):
    """All clauses at the place with some of the others, in the order of clauses."""
    rows = [((), ())]
    for other in others:
        later = [(after + (other,), within) for after, within in rows]
        loose = [(after, within + (other,)) for after, within in rows]
        rows = rows + later + loose
    return sorted_clauses([Clause(place, after, within) for after, within in rows])


def clause_holds(clause, standing):
    """Whether the clause holds in the standing."""
    ranks = check_standing(standing)
    if clause_places(clause)[-1] >= len(ranks):
        raise OtherPlaces()
    return holds_in(clause, ranks)


def holds_in(clause, ranks):
    """What clause_holds returns; nothing is checked."""
    rank = ranks[clause.place]
    for place in clause.after:
        if ranks[place] < rank:
            return True
    for place in clause.within:
        if ranks[place] <= rank:
            return True
    return False


def clause_implies(one, other):
    """Whether the other clause holds wherever the one does."""
    if one.width == 0:
        return True
    if one.place != other.place:
        return False
    return (all([place in other.after + other.within for place in one.after])
            and all([place in other.within for place in one.within]))


def broken_clause(standing, place):
    """The clause at the place that all clauses there imply which the standing breaks."""
    ranks = check_standing(standing)
    if not is_whole(place, 0, len(ranks) - 1):
        raise BadPlace()
    tied = [other for other, rank in enumerate(ranks) if rank == ranks[place] and other != place]
    later = [other for other, rank in enumerate(ranks) if rank > ranks[place]]
    return Clause(place, tied, later)


def holds_throughout(clause, relation):
    """Whether the clause holds in each member; nothing is checked."""
    return all([holds_in(clause, member) for member in relation])


def clauses_in(relation):
    """All clauses that hold in the relation, in the order of clauses."""
    return tuple([clause for clause in all_clauses(relation.places) if holds_throughout(clause, relation)])


def least_clauses(relation):
    """The clauses that hold in the relation and that no other one of them at the same place implies."""
    clauses = clauses_in(relation)
    return tuple([clause for clause in clauses if not any([_is_implied_by(clause, other) for other in clauses])])


def _is_implied_by(clause, other):
    """Whether the other is another clause at the same place that implies the clause."""
    return other.place == clause.place and other != clause and clause_implies(other, clause)


def clauses_relation(places, clauses):
    """The relation of all standings of so many places in which every clause holds."""
    _check_places_number(places)
    for clause in clauses:
        if clause_places(clause)[-1] >= places:
            raise OtherPlaces()
    members = [ranks for ranks in all_standings(places) if all([holds_in(clause, ranks) for clause in clauses])]
    return Relation(places, members)
