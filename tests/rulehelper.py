"""What the tests about rules need: small rules, and the words of the document about them."""

import functools
import random
from itertools import combinations, product

from earliestlots.rules import Rule, Rules
from tests.helper import standings_by_trying, subsets


def keeps_as_told(rule, dating):
    """Whether the dating keeps the rule, by the words of [8.1]."""
    if any(dating[one] != dating[other] for one, other in rule.premises):
        return True
    return rule.end[0] == "not after" and not dating[rule.end[1]] > dating[rule.end[2]]


def datings_of_rules(rules):
    """All datings of the rules, by trying all standings."""
    return [dating for dating in standings_by_trying(rules.size) if all(keeps_as_told(rule, dating) for rule in rules)]


def plain_ends(size):
    """All ends about unlike dates."""
    return [("never",)] + [("not after", one, other) for one in range(size) for other in range(size) if one != other]


@functools.cache
def plain_rules(size):
    """Rules over so many dates that say all that rules can say, each once, premises and ends about unlike dates."""
    found = {}
    for premises in subsets(combinations(range(size), 2)):
        for end in plain_ends(size):
            if len(premises) <= 4:
                rule = Rule(premises, end)
                kept = tuple(keeps_as_told(rule, dating) for dating in standings_by_trying(size))
                # Of rules with the same premises said otherwise the first stays.
                ties = tuple(all(dating[one] == dating[other] for one, other in premises)
                             for dating in standings_by_trying(size))
                found.setdefault((kept, ties), rule)
    return list(found.values())


@functools.cache
def some_rules(size, many, most):
    """Some rules over so many dates, up to so many of them, the same ones at each run."""
    picker = random.Random(f"{size} {many} {most}")
    return [Rules(size, [some_rule(picker, size) for _ in range(picker.randint(0, most))]) for _ in range(many)]


def some_rule(picker, size):
    """A rule over so many dates; now and then with a premise twice, with premises or an end about one date."""
    couples = list(product(range(size), repeat=2))
    premises = picker.choices(couples, k=picker.choice((0, 0, 1, 1, 1, 2, 2, 3, 4))) if size > 0 else []
    if picker.randint(0, 6) == 0 or size == 0:
        return Rule(premises, ("never",))
    return Rule(premises, ("not after", *picker.choice(couples)))


def small_rules():
    """Rules over up to 3 dates: all of up to 2 dates, and of 3 dates at most three plain rules, or some more."""
    rows = [(size, chosen) for size in range(3) for chosen in subsets(plain_rules(size))]
    rows += [(3, chosen) for many in range(4) for chosen in combinations(plain_rules(3), many)]
    rows += [(3, chosen) for chosen in list(combinations(plain_rules(3), 4))[::7]]
    return [Rules(size, chosen) for size, chosen in rows]


def fault_of_steps(rules, rule, steps):
    """The first word of [8.7] for these steps, or None."""
    if type(steps) not in (list, tuple) or not 1 <= len(steps) <= 1000:
        return "steps"
    shown = []
    for row in steps:
        fault, end = judged_row(rules, rule, row, shown)
        if fault is not None:
            return fault
        shown.append(end)
    return None if shown[-1] == "never" or ("not after", *shown[-1]) == rule.end else "end"


def judged_row(rules, rule, row, shown):
    """The first word of [8.7] for this row behind rows that show these couples or "never", or what it shows."""
    if not has_form(rules, rule, row):
        return "row", None
    word = row[0]
    if word == "self":
        return None, (row[1], row[1])
    if word == "given":
        return None, rule.premises[row[1]][::-1 if row[2] else 1]
    numbers = list(row[1:]) if word == "through" else list(row[2])
    if any(not 0 <= number < len(shown) or shown[number] == "never" for number in numbers):
        return "back", None
    couples = [shown[number] for number in numbers]
    if word == "through":
        (one, middle), (between, other) = couples
        return ("through", None) if middle != between else (None, (one, other))
    fired = rules.rules[row[1]]
    if couples != [couple for premise in fired.premises for couple in (premise, premise[::-1])]:
        return "premise", None
    return None, "never" if fired.end == ("never",) else fired.end[1:]


def has_form(rules, rule, row):
    """Whether the row has one of the four forms of [8.5]."""
    if type(row) not in (list, tuple) or not row:
        return False
    bounds = {"self": (rules.size,), "given": (len(rule.premises), 2), "through": (None, None),
              "rule": (len(rules), "numbers")}
    if type(row[0]) is not str or row[0] not in bounds or len(row) != len(bounds[row[0]]) + 1:
        return False
    for value, bound in zip(row[1:], bounds[row[0]]):
        if bound == "numbers":
            if type(value) not in (list, tuple) or any(type(number) is not int for number in value):
                return False
        elif type(value) is not int or (bound is not None and not 0 <= value < bound):
            return False
    return True
