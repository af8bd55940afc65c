"""Standings written and read as texts ([1.10])."""

from earliestlots.errors import BadText
from earliestlots.standings import MOST_PLACES, check_standing, is_standing

SIGNS = ("0", "1", "2", "3", "4", "5", "6")


def standing_text(standing):
    """The ranks with one blank between them."""
    return " ".join([str(rank) for rank in check_standing(standing)])


def standing_of_text(text):
    """The standing that standing_text writes so; BadText for every other value."""
    if not isinstance(text, str):
        raise BadText(-1)
    # Splitting the empty string gives one empty word, but the point says it has none.
    words = text.split(" ") if text != "" else []
    if len(words) > MOST_PLACES:
        raise BadText(-1)
    for index, word in enumerate(words):
        if word not in SIGNS:
            raise BadText(index)
    ranks = tuple([int(word) for word in words])
    if not is_standing(ranks, len(ranks)):
        raise BadText(-1)
    return ranks
