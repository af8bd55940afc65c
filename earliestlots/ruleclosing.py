"""Rules closed: which dates are surely tied or not after others, or that there is no dating ([8.3], [8.4])."""

from earliestlots.rules import NEVER
from earliestlots.rulesteps import closing_rows, shown_pairs, steps_until, taken_in_order, tied_classes


class Closed:
    """The classes of dates tied in every dating, and the pairs of which the first is never after the second."""

    def __init__(self, classes, pairs):
        self.classes = classes
        self.pairs = pairs

    def __eq__(self, other):
        return isinstance(other, Closed) and self.classes == other.classes and self.pairs == other.pairs


class Never:
    """Steps that show never, so that there is no dating."""

    def __init__(self, steps):
        self.steps = steps

    def __eq__(self, other):
        return isinstance(other, Never) and self.steps == other.steps


def close_rules(rules):
    """Never with steps if the rules show it, else Closed with what they show."""
    shown = closing_rows(rules, ())
    if NEVER in shown:
        return Never(steps_until(shown, NEVER))
    pairs = shown_pairs(shown)
    return Closed(tied_classes(rules.size, pairs), pairs)


def apart_dating(closed):
    """The dating that comes by taking the closed classes one by one, the first free one each time."""
    return taken_in_order(closed.classes, closed.pairs)
