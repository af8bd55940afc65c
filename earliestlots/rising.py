"""Clauses about dates, and heights that rise until no clause is broken ([6.11] to [6.13])."""

from earliestlots.books import check_lesser, equal_book
from earliestlots.clauses import Clause, clause_places, holds_in, least_clauses, sorted_clauses
from earliestlots.countings import all_standings
from earliestlots.errors import BadCount, NotBroken, OtherPlaces, TooMany
from earliestlots.relations import MOST_RELATED, Relation
from earliestlots.standings import MOST_PLACES, is_whole

MOST_CLAUSES = 400


class Rise:
    """Clauses about the dates below size, and a height for each date; None is after all whole numbers."""

    def __init__(self, size, clauses):
        if not is_whole(size, 0, MOST_PLACES):
            raise BadCount("size")
        if not isinstance(clauses, (list, tuple)) or len(clauses) > MOST_CLAUSES:
            raise TooMany(MOST_CLAUSES)
        for clause in clauses:
            if clause_places(clause)[-1] >= size:
                raise OtherPlaces()
        self.size = size
        self.clauses = sorted_clauses(clauses)
        self.heights = (0,) * size

    def __eq__(self, other):
        return (isinstance(other, Rise) and self.size == other.size and self.clauses == other.clauses
                and self.heights == other.heights)

    @property
    def broken(self):
        """The indices of the clauses that are broken by the heights, ascending."""
        return tuple([index for index, clause in enumerate(self.clauses) if _is_broken(clause, self.heights)])

    def rise_by(self, index):
        """A new Rise in which the date of this broken clause is just so high that the clause is not broken."""
        if not is_whole(index) or index not in self.broken:
            raise NotBroken(index)
        clause = self.clauses[index]
        height = _least_height(clause, self.heights, self.size)
        risen = Rise(self.size, self.clauses)
        risen.heights = self.heights[:clause.place] + (height,) + self.heights[clause.place + 1:]
        return risen


def _is_broken(clause, heights):
    """Whether the clause is broken by the heights."""
    height = heights[clause.place]
    if height is None:
        return False
    after, within = _whole_heights(clause, heights)
    return not any([other < height for other in after]) and not any([other <= height for other in within])


def _whole_heights(clause, heights):
    """The whole heights of the clause's after places, and those of its within places."""
    after = [heights[place] for place in clause.after if heights[place] is not None]
    within = [heights[place] for place in clause.within if heights[place] is not None]
    return (after, within)


def _least_height(clause, heights, size):
    """The least height of the clause's date by which the clause is not broken."""
    after, within = _whole_heights(clause, heights)
    least = min([other + 1 for other in after] + within, default=size)
    return least if least < size else None


def risen_heights(size, clauses):
    """The heights at which no clause is broken any more."""
    rise = Rise(size, clauses)
    broken = rise.broken
    while len(broken) > 0:
        rise = rise.rise_by(broken[0])
        broken = rise.broken
    return rise.heights


def clauses_of(book):
    """The unlike clauses of all facts of a book that lesser keeps, about its dates, in the order of clauses."""
    check_lesser(book)
    return sorted_clauses([_dated_clause(clause, dates) for relation, dates in equal_book(book).facts
                           for clause in least_clauses(relation)])


def _dated_clause(clause, dates):
    """The clause with each place replaced by its date."""
    after = [dates[place] for place in clause.after]
    within = [dates[place] for place in clause.within]
    return Clause(dates[clause.place], after, within)


def clause_fact(clause):
    """The fact (relation, dates) that says the clause."""
    dates = clause_places(clause)
    if len(dates) > MOST_RELATED:
        raise TooMany(MOST_RELATED)
    local = _dated_clause(clause, {date: place for place, date in enumerate(dates)})
    members = [ranks for ranks in all_standings(len(dates)) if holds_in(local, ranks)]
    return (Relation(len(dates), members), dates)
