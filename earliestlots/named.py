"""Relations with names ([2.6])."""

from earliestlots.countings import all_standings
from earliestlots.errors import BadCount
from earliestlots.relations import MOST_RELATED, Relation
from earliestlots.standings import is_whole


def before_relation():
    """The first place before the second."""
    return Relation(2, [(0, 1)])


def not_after_relation():
    """The first place before the second or tied with it."""
    return Relation(2, [(0, 0), (0, 1)])


def tied_relation():
    """Both places tied."""
    return Relation(2, [(0, 0)])


def unlike_relation():
    """Both places not tied."""
    return Relation(2, [(0, 1), (1, 0)])


def between_relation():
    """The second of three places between the others."""
    return Relation(3, [(0, 1, 2), (2, 1, 0)])


def two_first_relation():
    """Two of three places tied, and the third behind them."""
    return Relation(3, [(0, 0, 1), (0, 1, 0), (1, 0, 0)])


def _first_against_others(places, asked):
    """The relation of the standings whose first rank is to the other ranks as asked."""
    if not is_whole(places, 2, MOST_RELATED):
        raise BadCount("places")
    return Relation(places, [ranks for ranks in all_standings(places) if asked(ranks[0], ranks[1:])])


def after_one_of(places):
    """The first place after at least one of the others."""
    return _first_against_others(places, lambda first, others: first > min(others))


def after_all_of(places):
    """The first place after each of the others."""
    return _first_against_others(places, lambda first, others: first > max(others))


def with_or_after_one_of(places):
    """The first place tied with or after at least one of the others."""
    return _first_against_others(places, lambda first, others: first >= min(others))
