"""Closing rules step by step: what is shown, by which steps, and the judge of steps ([8.3] to [8.7])."""

from earliestlots.errors import BadRule
from earliestlots.rules import NEVER, NOT_AFTER, has_dates_below
from earliestlots.standings import is_whole

MOST_STEPS = 1000


class Shown:
    """Steps that show a rule."""

    def __init__(self, steps):
        self.steps = steps

    def __eq__(self, other):
        return isinstance(other, Shown) and self.steps == other.steps


class NotShown:
    """A dating of the rules that does not keep a rule."""

    def __init__(self, dating):
        self.dating = dating

    def __eq__(self, other):
        return isinstance(other, NotShown) and self.dating == other.dating


def _premise_ends(premises):
    """For each premise the end that its first date is not after its second, and the same turned."""
    return [(NOT_AFTER, first, second) for one, other in premises for first, second in ((one, other), (other, one))]


def closing_rows(rules, premises):
    """Each end that is shown when the premises are given, in order, with the number of its row and the row."""
    shown = {}
    for date in range(rules.size):
        _show(shown, (NOT_AFTER, date, date), ("self", date))
    for index, end in enumerate(_premise_ends(premises)):
        _show(shown, end, ("given", index // 2, index & 1))
    many = -1
    while many < len(shown) and NEVER not in shown:
        many = len(shown)
        _show_through(shown, rules.size)
        _fire_rules(shown, rules)
    return shown


def _show(shown, end, row):
    """Puts the row behind the others if its end is new."""
    if end not in shown:
        shown[end] = (len(shown), row)


def _show_through(shown, size):
    """Shows whatever comes through dates in the middle."""
    for middle in range(size):
        for one in range(size):
            first = (NOT_AFTER, one, middle)
            for other in range(size):
                second = (NOT_AFTER, middle, other)
                if first in shown and second in shown:
                    _show(shown, (NOT_AFTER, one, other), ("through", shown[first][0], shown[second][0]))


def _fire_rules(shown, rules):
    """Shows the end of each rule whose premises are shown both ways."""
    for number, rule in enumerate(rules):
        ends = _premise_ends(rule.premises)
        if all([end in shown for end in ends]):
            _show(shown, rule.end, ("rule", number, tuple([shown[end][0] for end in ends])))


def steps_until(shown, end):
    """The steps that show what closing_rows has shown, up to this end."""
    rows = [row for _, row in list(shown.values())]
    return tuple(rows[:shown[end][0] + 1])


def shown_pairs(shown):
    """The couples of unlike dates of which it is shown that the first is not after the second, ascending."""
    return tuple(sorted([end[1:] for end in shown if end != NEVER and end[1] != end[2]]))


def tied_classes(size, pairs):
    """The lots of dates that are not after one another, in the order of their least dates."""
    classes = []
    for date in range(size):
        tied = [other for other in range(size)
                if other == date or ((date, other) in pairs and (other, date) in pairs)]
        if tied[0] == date:
            classes.append(tuple(tied))
    return tuple(classes)


def taken_in_order(classes, pairs):
    """The standing of the classes taken one by one, each time the first into which no pair leads from another."""
    left = list(classes)
    ranks = {}
    while len(left) > 0:
        tied = [row for row in left if _is_free(row, left, pairs)][0]
        ranks.update({date: len(classes) - len(left) for date in tied})
        left.remove(tied)
    return tuple([ranks[date] for date in range(len(ranks))])


def _is_free(tied, left, pairs):
    """Whether no pair leads into the class from another one of those left."""
    return not any([(one, other) in pairs for row in left if row != tied for one in row for other in tied])


def check_rule_dates(rules, rule):
    """BadRule if the rule has a date that is none of the rules."""
    if not has_dates_below(rule, rules.size):
        raise BadRule("dates")


def show_rule(rules, rule):
    """Shown with steps that show the rule, or NotShown with a dating of the rules that does not keep it."""
    check_rule_dates(rules, rule)
    shown = closing_rows(rules, rule.premises)
    for end in (rule.end, NEVER):
        if end in shown:
            return Shown(steps_until(shown, end))
    return NotShown(_dating_without(rule.end, rules.size, shown_pairs(shown)))


def _dating_without(end, size, pairs):
    """A dating that keeps the pairs and ties their classes alone, but not this end."""
    classes = tied_classes(size, pairs)
    # What must not be after the second date comes first: the first date of the end is not among it.
    early = [tied for tied in classes if end != NEVER and (end[2] in tied or (tied[0], end[2]) in pairs)]
    return taken_in_order(early + [tied for tied in classes if tied not in early], pairs)


def steps_fault(rules, rule, steps):
    """None if the steps show the rule, else the first wrong."""
    check_rule_dates(rules, rule)
    if not isinstance(steps, (list, tuple)) or not 1 <= len(steps) <= MOST_STEPS:
        return "steps"
    ends = []
    for row in steps:
        if not _is_row(rules, rule, row):
            return "row"
        fault = _back_fault(rules, row, ends)
        if fault is not None:
            return fault
        ends.append(_end_of_row(rules, rule, row, ends))
    return None if ends[-1] in (rule.end, NEVER) else "end"


def _is_row(rules, rule, row):
    """Whether the row has one of the four forms."""
    if not isinstance(row, (list, tuple)) or len(row) not in (2, 3):
        return False
    if len(row) == 2:
        return row[0] == "self" and is_whole(row[1], 0, rules.size - 1)
    word, first, second = row
    if word == "given":
        return is_whole(first, 0, len(rule.premises) - 1) and is_whole(second, 0, 1)
    if word == "through":
        return is_whole(first) and is_whole(second)
    if word != "rule" or not is_whole(first, 0, len(rules) - 1) or not isinstance(second, (list, tuple)):
        return False
    return all([is_whole(number) for number in second])


def _back_fault(rules, row, ends):
    """None if the earlier rows, which show these ends, show what the row goes back to, else the first wrong."""
    numbers = _row_numbers(row)
    if not all([is_whole(number, 0, len(ends) - 1) and ends[number] != NEVER for number in numbers]):
        return "back"
    held = [ends[number] for number in numbers]
    if row[0] == "through" and held[0][2] != held[1][1]:
        return "through"
    if row[0] == "rule" and held != _premise_ends(rules.rules[row[1]].premises):
        return "premise"
    return None


def _row_numbers(row):
    """The numbers of the rows that the row goes back to."""
    if row[0] == "through":
        return row[1:]
    return row[2] if row[0] == "rule" else ()


def _end_of_row(rules, rule, row, ends):
    """The end that the row shows."""
    if row[0] == "self":
        return (NOT_AFTER, row[1], row[1])
    if row[0] == "given":
        return _premise_ends(rule.premises)[2 * row[1] + row[2]]
    if row[0] == "through":
        return (NOT_AFTER, ends[row[1]][1], ends[row[2]][2])
    return rules.rules[row[1]].end
