"""Rules: if these dates are tied, then this one is not after that one, or never ([8.1], [8.2])."""

from earliestlots.errors import BadRule, BadRules
from earliestlots.standings import MOST_PLACES, check_standing, is_whole

NOT_AFTER = "not after"
# The end of a rule whose premises never all hold.
NEVER = ("never",)

MOST_PREMISES = 4
MOST_RULES = 80


class Rule:
    """Couples of dates, and what holds if the dates of each couple are tied."""

    def __init__(self, premises, end):
        if not isinstance(premises, (list, tuple)) or len(premises) > MOST_PREMISES:
            raise BadRule("premises")
        for premise in premises:
            if not _is_couple(premise):
                raise BadRule("premises")
        if not _is_end(end):
            raise BadRule("end")
        self.premises = tuple([tuple(premise) for premise in premises])
        self.end = tuple(end)

    def __eq__(self, other):
        return isinstance(other, Rule) and self.premises == other.premises and self.end == other.end


def _is_couple(thing):
    """Whether this is a list or tuple of two dates."""
    if not isinstance(thing, (list, tuple)) or len(thing) != 2:
        return False
    return all([is_whole(date, 0, MOST_PLACES - 1) for date in thing])


def _is_end(thing):
    """Whether this is one of the two forms of an end."""
    if not isinstance(thing, (list, tuple)) or len(thing) == 0:
        return False
    if thing[0] == NOT_AFTER:
        return _is_couple(thing[1:])
    return tuple(thing) == NEVER


def rule_dates(rule):
    """The unlike dates of the rule, ascending."""
    return tuple(sorted({date for row in rule.premises + (rule.end[1:],) for date in row}))


class Rules:
    """Rules over the dates from 0 to size - 1."""

    def __init__(self, size, rules):
        if not is_whole(size, 0, MOST_PLACES):
            raise BadRules(-1, "size")
        if not isinstance(rules, (list, tuple)) or len(rules) > MOST_RULES:
            raise BadRules(-1, "many")
        for index, rule in enumerate(rules):
            if not isinstance(rule, Rule):
                raise BadRules(index, "rule")
            if not has_dates_below(rule, size):
                raise BadRules(index, "date")
        self.size = size
        self.rules = tuple(rules)

    def __len__(self):
        return len(self.rules)

    def __iter__(self):
        return iter(self.rules)

    def __eq__(self, other):
        return isinstance(other, Rules) and self.size == other.size and self.rules == other.rules


def has_dates_below(rule, size):
    """Whether all dates of the rule are below size."""
    return all([date < size for date in rule_dates(rule)])


def keeps_rule(ranks, rule):
    """Whether the standing keeps the rule; nothing is checked."""
    for one, other in rule.premises:
        if ranks[one] != ranks[other]:
            return True
    return rule.end != NEVER and ranks[rule.end[1]] <= ranks[rule.end[2]]


def broken_rule(rules, dating):
    """The number of the first rule that the dating does not keep, or None."""
    ranks = check_standing(dating, rules.size)
    for number, rule in enumerate(rules):
        if not keeps_rule(ranks, rule):
            return number
    return None
