"""Relations that rules say, and books of rules ([8.8], [8.10])."""

from earliestlots.books import MOST_FACTS, Book, equal_book
from earliestlots.countings import all_standings
from earliestlots.errors import NotAFact, NotRuledFact, TooMany
from earliestlots.relations import MOST_RELATED, Relation, left_out
from earliestlots.rules import MOST_RULES, NEVER, NOT_AFTER, Rule, Rules, keeps_rule, rule_dates


class NotRuled:
    """A standing that is no member but keeps every rule that all members keep."""

    def __init__(self, standing):
        self.standing = standing

    def __eq__(self, other):
        return isinstance(other, NotRuled) and self.standing == other.standing


def rules_for(relation):
    """Rules over the places that just the members keep, or NotRuled."""
    rules = []
    for standing in left_out(relation):
        # A rule that keeps one standing out may keep out later ones, too.
        if all([keeps_rule(standing, rule) for rule in rules]):
            end = _end_against(relation, standing)
            if end is None:
                return NotRuled(standing)
            rules.append(Rule(_ties_of(standing), end))
    return tuple(rules)


def _ties_of(standing):
    """Couples of tied places by which all ties of the standing come."""
    firsts = [(standing.index(rank), place) for place, rank in enumerate(standing)]
    return [(first, place) for first, place in firsts if first != place]


def _end_against(relation, standing):
    """An end that all members with the ties of the standing keep, but the standing does not; None if there is none."""
    ties = _ties_of(standing)
    tied = [member for member in relation if all([member[one] == member[other] for one, other in ties])]
    if len(tied) == 0:
        return NEVER
    for one, rank in enumerate(standing):
        for other, beside in enumerate(standing):
            if rank > beside and all([member[one] <= member[other] for member in tied]):
                return (NOT_AFTER, one, other)
    return None


def _with_dates(rule, dates):
    """The rule with each of its numbers replaced by the date at this place."""
    premises = [(dates[one], dates[other]) for one, other in rule.premises]
    return Rule(premises, rule.end[:1] + tuple([dates[place] for place in rule.end[1:]]))


def rules_book(rules):
    """The book with a fact for each rule."""
    if len(rules) > MOST_FACTS:
        raise TooMany(MOST_FACTS)
    for number, rule in enumerate(rules):
        if not 1 <= len(rule_dates(rule)) <= MOST_RELATED:
            raise NotAFact(number)
    return Book(rules.size, [_rule_fact(rule) for rule in rules])


def _rule_fact(rule):
    """The fact that says the rule."""
    dates = rule_dates(rule)
    local = _with_dates(rule, {date: place for place, date in enumerate(dates)})
    members = [ranks for ranks in all_standings(len(dates)) if keeps_rule(ranks, local)]
    return (Relation(len(dates), members), dates)


def book_rules(book):
    """Rules with just the datings of the book."""
    rules = []
    lacking = 0
    for number, (relation, dates) in enumerate(equal_book(book).facts):
        found = rules_for(relation)
        if isinstance(found, NotRuled):
            raise NotRuledFact(number)
        rules.extend([_with_dates(rule, dates) for rule in found])
        lacking += len(left_out(relation))
    if lacking > MOST_RULES:
        raise TooMany(MOST_RULES)
    return Rules(book.size, rules)
