"""Relations that are said by clauses, and members that make a standing by lesser ([6.7] to [6.10])."""

from earliestlots.clauses import broken_clause, holds_in, holds_throughout, least_clauses
from earliestlots.deeds import made_by
from earliestlots.errors import TooMany
from earliestlots.linings import is_lining, lining_of
from earliestlots.relations import left_out
from earliestlots.standings import check_standing

MOST_FEW = 3
MOST_NEEDED = 24

# More than the ranks of a standing that is a member.
GAP = 8


class Said:
    """The least clauses of a relation, which say it."""

    def __init__(self, clauses):
        self.clauses = clauses

    def __eq__(self, other):
        return isinstance(other, Said) and self.clauses == other.clauses


class Unsaid:
    """A standing that is no member although all clauses of the relation hold in it."""

    def __init__(self, standing):
        self.standing = standing

    def __eq__(self, other):
        return isinstance(other, Unsaid) and self.standing == other.standing


class Needed:
    """Members, and linings along which lesser makes a standing of them, one after another."""

    def __init__(self, members, linings):
        self.members = members
        self.linings = linings

    def __eq__(self, other):
        return isinstance(other, Needed) and self.members == other.members and self.linings == other.linings


class Barred:
    """A clause that holds in the relation and that a standing breaks."""

    def __init__(self, clause):
        self.clause = clause

    def __eq__(self, other):
        return isinstance(other, Barred) and self.clause == other.clause


def said_by(relation):
    """Said with the least clauses if they leave the members alone, else Unsaid."""
    clauses = least_clauses(relation)
    for standing in left_out(relation):
        if all([holds_in(clause, standing) for clause in clauses]):
            return Unsaid(standing)
    return Said(clauses)


def few_clauses(relation):
    """As few of the least clauses as say the relation, the first such ones; None if it is not said."""
    if relation.places > MOST_FEW:
        raise TooMany(MOST_FEW)
    clauses = least_clauses(relation)
    outside = left_out(relation)
    rows = [()]
    while len(rows) > 0:
        for row in rows:
            chosen = tuple([clauses[index] for index in row])
            if all([_breaks_one(standing, chosen) for standing in outside]):
                return chosen
        rows = [row + (index,) for row in rows for index in range(max(row, default=-1) + 1, len(clauses))]
    return None


def _breaks_one(standing, clauses):
    """Whether the standing breaks one of the clauses."""
    return not all([holds_in(clause, standing) for clause in clauses])


def needed_members(relation, standing):
    """Needed with members that make the standing by lesser, or Barred with a clause that keeps it out."""
    ranks = check_standing(standing, relation.places)
    members = []
    for place in range(len(ranks)):
        clause = broken_clause(ranks, place)
        if holds_throughout(clause, relation):
            return Barred(clause)
        members.append([member for member in relation if not holds_in(clause, member)][0])
    rows = [_numbers_of(member, ranks, place) for place, member in enumerate(members)]
    linings = []
    made = rows[0]
    for row in rows[1:]:
        linings.append(lining_of(made, row))
        made = [min(one, other) for one, other in zip(made, row)]
    return Needed(tuple(members), tuple(linings))


def _numbers_of(member, ranks, place):
    """Numbers in the order of the member that are nowhere below GAP times the ranks, and just that at the place.

    The member breaks the clause of the place: no place that is tied with it in the ranks comes earlier in the
    member, and each that is later in the ranks comes later in the member, too.
    """
    level = GAP * ranks[place] - member[place]
    beyond = GAP * len(ranks)
    return [(level if rank <= member[place] else beyond) + rank for rank in member]


def needed_fault(relation, standing, result):
    """None if lesser makes the standing of the members along the linings, else the first wrong."""
    ranks = check_standing(standing, relation.places)
    if not _is_needed(result):
        return "needed"
    if not all([relation.holds(member) for member in result.members]):
        return "member"
    made = tuple(result.members[0])
    for member, lining in zip(result.members[1:], result.linings):
        if not is_lining(made, member, lining):
            return "lining"
        made = made_by("lesser", made, member, lining)
    return None if made == ranks else "made"


def _is_needed(result):
    """Whether this is a Needed with 1 to 24 members and one lining fewer."""
    if not isinstance(result, Needed):
        return False
    if not isinstance(result.members, (list, tuple)) or not isinstance(result.linings, (list, tuple)):
        return False
    return 1 <= len(result.members) <= MOST_NEEDED and len(result.linings) == len(result.members) - 1
