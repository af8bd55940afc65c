"""What deeds and taking over keep, judged by all couples and linings ([3.9] to [3.11])."""

from earliestlots.deeds import check_deed, lining_tables, made_by, made_by_table, over_of
from earliestlots.errors import TooMany
from earliestlots.linings import is_lining
from earliestlots.relations import Relation
from earliestlots.standings import is_among, is_whole, ranks_number

MOST_GROWN = 3


class Broken:
    """Two members and a lining along which a deed makes no member."""

    def __init__(self, one, other, lining):
        self.one = one
        self.other = other
        self.lining = lining

    def __eq__(self, other):
        return (isinstance(other, Broken) and self.one == other.one and self.other == other.other
                and self.lining == other.lining)


class BrokenOver:
    """Two members and a cut at which one taken over by other is no member."""

    def __init__(self, one, cut, other):
        self.one = one
        self.cut = cut
        self.other = other

    def __eq__(self, other):
        return (isinstance(other, BrokenOver) and self.one == other.one and self.cut == other.cut
                and self.other == other.other)


def is_kept(relation, deed):
    """Whether the deed keeps the relation."""
    return broken_by(relation, deed) is None


def broken_by(relation, deed):
    """None, or the first two members and lining along which the deed makes no member."""
    check_deed(deed)
    known = {member: True for member in relation}
    tables = {}
    for one in relation:
        for other in relation:
            ranks = (ranks_number(one), ranks_number(other))
            # Half a million results are possible: the tables of a couple of numbers are made once.
            if ranks not in tables:
                tables[ranks] = lining_tables(deed, ranks[0], ranks[1])
            for lining, table in tables[ranks]:
                if made_by_table(table, one, other) not in known:
                    return Broken(one, other, lining)
    return None


def broken_over(relation):
    """None, or the first two members and cut at which one taken over by other is no member."""
    known = {member: True for member in relation}
    for one in relation:
        for cut in range(ranks_number(one) + 1):
            for other in relation:
                if over_of(one, cut, other) not in known:
                    return BrokenOver(one, cut, other)
    return None


def broken_fault(relation, deed, broken):
    """None if the Broken shows that the deed does not keep the relation, else the first wrong."""
    check_deed(deed)
    if not relation.holds(broken.one):
        return "one"
    if not relation.holds(broken.other):
        return "other"
    if not is_lining(broken.one, broken.other, broken.lining):
        return "lining"
    if relation.holds(made_by(deed, broken.one, broken.other, broken.lining)):
        return "made"
    return None


def over_fault(relation, broken):
    """None if the BrokenOver shows that the relation cannot be taken over, else the first wrong."""
    if not relation.holds(broken.one):
        return "one"
    if not is_whole(broken.cut, 0, ranks_number(broken.one)):
        return "cut"
    if not relation.holds(broken.other):
        return "other"
    if relation.holds(over_of(broken.one, broken.cut, broken.other)):
        return "made"
    return None


def _check_few_places(relation):
    """TooMany if growing the relation is not offered."""
    if relation.places > MOST_GROWN:
        raise TooMany(MOST_GROWN)


def grown_by(relation, deed):
    """The least relation with all members that the deed keeps."""
    return _with_standings(relation, [step[3] for step in grown_steps(relation, deed)])


def grown_over(relation):
    """The least relation with all members that can be taken over."""
    _check_few_places(relation)
    return _with_standings(relation, [step[3] for step in _growing_steps(relation, _overs_of)])


def _with_standings(relation, standings):
    """The relation with these standings beside its members."""
    return Relation(relation.places, list(relation.members) + standings)


def grown_steps(relation, deed):
    """Steps (one, other, lining, standing) that add what the deed makes until nothing new comes."""
    check_deed(deed)
    _check_few_places(relation)
    return tuple(_growing_steps(relation, lambda one, other: _made_of(deed, one, other)))


def _made_of(deed, one, other):
    """Each lining of the two and what the deed makes along it."""
    tables = lining_tables(deed, ranks_number(one), ranks_number(other))
    return [(lining, made_by_table(table, one, other)) for lining, table in tables]


def _overs_of(one, other):
    """Each cut and what one taken over by other is there."""
    return [(cut, over_of(one, cut, other)) for cut in range(ranks_number(one) + 1)]


def _growing_steps(relation, results_of):
    """The steps (one, other, by what, standing) in which results are added until nothing new comes."""
    known = list(relation.members)
    steps = []
    at = 0
    while at < len(known):
        # Each standing meets itself and the earlier ones; the later ones will meet it.
        couples = [(known[at], early) for early in known[:at + 1]] + [(early, known[at]) for early in known[:at]]
        for one, other in couples:
            for means, standing in results_of(one, other):
                if standing not in known:
                    known.append(standing)
                    steps.append((one, other, means, standing))
        at += 1
    return steps


def grown_fault(relation, deed, steps):
    """None if the steps show what has to be added, and all of it, else the first wrong."""
    check_deed(deed)
    _check_few_places(relation)
    if not isinstance(steps, (list, tuple)):
        return "steps"
    known = list(relation.members)
    for step in steps:
        fault = _step_fault(deed, step, known)
        if fault is not None:
            return fault
        known.append(step[3])
    if not is_kept(Relation(relation.places, known), deed):
        return "kept"
    return None


def _step_fault(deed, step, known):
    """None if the step adds a new standing to those known, else the first wrong."""
    if not isinstance(step, (list, tuple)) or len(step) != 4:
        return "step"
    one, other, lining, standing = step
    if not is_among(one, known):
        return "one"
    if not is_among(other, known):
        return "other"
    if not is_lining(one, other, lining):
        return "lining"
    if not isinstance(standing, tuple) or not is_among(standing, [made_by(deed, one, other, lining)]):
        return "made"
    if standing in known:
        return "known"
    return None
