"""Tests of [8.5] to [8.7]."""

import random

from earliestlots.errors import BadRule
from earliestlots.rules import Rule, Rules
from earliestlots.rulesteps import NotShown, Shown, show_rule, steps_fault
from tests.helper import NO_NUMBERS, NO_SEQUENCES, Checks, kinds_of
from tests.rulehelper import (
    datings_of_rules, fault_of_steps, keeps_as_told, plain_rules, small_rules, some_rule, some_rules)

NEVER = ("never",)
GOAL = Rule([(0, 1), (2, 2), (1, 0)], ("not after", 0, 2))
# 0 and 1 are tied; if they are, 1 is not after 2; if 0 and 2 are tied, never.
RULES = Rules(3, [
    Rule((), ("not after", 0, 1)), Rule((), ("not after", 1, 0)), Rule([(0, 1)], ("not after", 1, 2)),
    Rule([(0, 2)], NEVER), Rule([(0, 1), (2, 2), (0, 1)], ("not after", 2, 0))])
STEPS = (
    ("rule", 0, ()), ("rule", 1, ()), ("rule", 2, (0, 1)), ("through", 0, 2), ("self", 2),
    ("rule", 4, (0, 1, 4, 4, 0, 1)), ("rule", 3, (3, 5)))


def ways_to_spoil(picker, steps):
    """The steps with one thing in them changed at random."""
    rows = [list(row) for row in steps]
    at = picker.randrange(len(rows))
    row = rows[at]
    junk = picker.choice((None, True, False, -1, 0, 1, 2, 3, 7, "self", 1.0, (), (0,), [0, 1], "never"))
    way = picker.randrange(8)
    if way == 0:
        row[picker.randrange(len(row))] = junk
    elif way == 1:
        row[picker.randrange(1, len(row))] = picker.randint(-1, len(rows))
    elif way == 2 and isinstance(row[-1], (list, tuple)) and row[-1]:
        numbers = list(row[-1])
        numbers[picker.randrange(len(numbers))] = picker.choice((junk, picker.randint(-1, len(rows))))
        row[-1] = numbers
    elif way == 3 and isinstance(row[-1], (list, tuple)):
        row[-1] = picker.choice((row[-1][:-1], list(row[-1]) + [0], row[-1][::-1]))
    elif way == 4:
        del rows[at]
    elif way == 5:
        rows.insert(at, picker.choice((("self", 0), ("given", 0, 0), ("through", 0, 0), ("rule", 0, ()), junk)))
    elif way == 6:
        rows.append(rows.pop(at))
    else:
        row[0] = picker.choice(("self", "given", "through", "rule"))
    return rows


class ShowRuleTests(Checks):

    def check_shown(self, rules, rule, datings):
        """The rule is shown exactly if all datings keep it; the steps or the dating are right."""
        result = show_rule(rules, rule)
        broken = [dating for dating in datings if not keeps_as_told(rule, dating)]
        if broken:
            self.assertIs(type(result), NotShown)
            self.assertIn(result.dating, broken)
            self.same(result.dating, tuple(result.dating))
            return False
        self.assertIs(type(result), Shown)
        self.assertNotIn(list, kinds_within(result.steps))
        self.assertIsNone(fault_of_steps(rules, rule, result.steps))
        self.same(steps_fault(rules, rule, result.steps), None)
        return True

    def test_small_rules(self):
        shown = others = 0
        for rules in small_rules()[::4]:
            datings = datings_of_rules(rules)
            for rule in plain_rules(rules.size):
                if self.check_shown(rules, rule, datings):
                    shown += 1
                else:
                    others += 1
        self.assertGreater(min(shown, others), 500)

    def test_some_rules(self):
        picker = random.Random(86)
        for size, many in ((0, 4), (1, 10), (2, 20), (3, 60), (4, 60), (5, 20)):
            for rules in some_rules(size, many, 3) + some_rules(size, many, 9):
                datings = datings_of_rules(rules)
                for _ in range(4):
                    self.check_shown(rules, some_rule(picker, size), datings)

    def test_without_a_dating_every_rule_is_shown(self):
        rules = Rules(3, [Rule([(2, 2)], NEVER)])
        for rule in plain_rules(3) + [GOAL]:
            self.check_shown(rules, rule, [])

    def test_edges(self):
        for rules in (Rules(0, ()), Rules(7, ())):
            result = show_rule(rules, Rule((), NEVER))
            self.assertEqual(result, NotShown(tuple(result.dating)))
            self.assertEqual(len(result.dating), rules.size)
        self.assertEqual(show_rule(Rules(0, [Rule((), NEVER)]), Rule((), NEVER)), Shown((("rule", 0, ()),)))
        for rule in (Rule((), ("not after", 6, 6)), Rule([(5, 5)], ("not after", 6, 6)),
                     Rule([(0, 6), (0, 6)], ("not after", 6, 0)), Rule([(0, 1), (1, 2)], ("not after", 2, 0))):
            self.assertIsNone(fault_of_steps(Rules(7, ()), rule, show_rule(Rules(7, ()), rule).steps))

    def test_7_dates_80_rules(self):
        chain = [Rule([(date, date)] * 4, ("not after", date, date + 1)) for date in range(6)]
        rules = Rules(7, chain + [Rule([(0, 6)] * 4, ("not after", 5, 1))] * 74)
        rule = Rule([(6, 0)], ("not after", 6, 3))
        result = show_rule(rules, rule)
        self.assertIsNone(fault_of_steps(rules, rule, result.steps))
        self.assertLessEqual(len(result.steps), 1000)
        rule = Rule([(5, 1)], ("not after", 6, 5))
        result = show_rule(rules, rule)
        self.assertTrue(all(keeps_as_told(row, result.dating) for row in rules))
        self.assertFalse(keeps_as_told(rule, result.dating))

    def test_the_rule_itself_does_not_fire(self):
        rule = Rule((), ("not after", 0, 1))
        self.assertIs(type(show_rule(Rules(2, ()), rule)), NotShown)

    def test_errors(self):
        for rule in (Rule([(0, 2)], NEVER), Rule((), ("not after", 2, 0)), Rule([(6, 6)], ("not after", 0, 1))):
            self.wrong(BadRule, {"what": "dates"}, show_rule, Rules(2, ()), rule)
            for steps in (None, (), (("self", 0),)):
                self.wrong(BadRule, {"what": "dates"}, steps_fault, Rules(2, ()), rule, steps)
        self.wrong(BadRule, {"what": "dates"}, show_rule, Rules(0, [Rule((), NEVER)]), Rule([(0, 0)], NEVER))

    def test_nothing_is_changed(self):
        self.unchanged(lambda rules, rule: show_rule(rules, rule).steps, RULES, GOAL)
        self.unchanged(lambda rules, rule: show_rule(rules, rule).dating, Rules(3, ()), Rule((), NEVER))
        self.unchanged(steps_fault, RULES, GOAL, [list(row) for row in STEPS])

    def test_results_keep_what_they_are_given(self):
        for result in (Shown, NotShown):
            given = [1]
            self.assertIs(next(iter(vars(result(given)).values())), given)
            self.assertEqual(result((1,)), result((1,)))
            self.assertNotEqual(result((1,)), result((2,)))
            self.assertNotEqual(result((1,)), (1,))
        self.assertEqual(vars(Shown(1)), {"steps": 1})
        self.assertEqual(vars(NotShown(1)), {"dating": 1})


def kinds_within(thing):
    """All classes of the thing and of what is within it."""
    found, waiting = set(), [kinds_of(thing)]
    while waiting:
        kind = waiting.pop()
        if isinstance(kind, tuple):
            found.add(kind[0])
            waiting.extend(kind[1])
        else:
            found.add(kind)
    return found


class StepsFaultTests(Checks):

    def fault(self, wanted, steps, goal=Rule((), NEVER)):
        """Both judges say this word of the steps, as tuples and as lists."""
        for rows in (steps, list(steps), [list(row) if isinstance(row, tuple) else row for row in steps]):
            self.same(steps_fault(RULES, goal, rows), wanted)
            self.assertEqual(fault_of_steps(RULES, goal, rows), wanted)

    def test_right_steps(self):
        self.fault(None, STEPS)
        self.fault(None, STEPS, GOAL)
        self.fault(None, STEPS[:4], GOAL)
        self.fault(None, (("given", 0, 0),), Rule([(0, 1)], ("not after", 0, 1)))
        self.fault(None, (("given", 0, 1),), Rule([(0, 1)], ("not after", 1, 0)))
        self.fault(None, (("given", 1, 1),), Rule([(0, 1), (1, 2)], ("not after", 2, 1)))
        self.fault(None, (("self", 2), ("through", 0, 0)), Rule((), ("not after", 2, 2)))
        self.fault(None, (("self", 2),) * 1000, Rule((), ("not after", 2, 2)))
        # Rows behind a never are let if they do not go back to it.
        self.fault(None, STEPS + STEPS, GOAL)
        self.fault(None, STEPS + STEPS[:3] + (("through", 7, 9),), GOAL)

    def test_steps(self):
        for wrong in NO_SEQUENCES + ((), [], (("self", 2),) * 1001):
            self.same(steps_fault(RULES, GOAL, wrong), "steps")

    def test_row(self):
        rows = [None, 0, "self", ("self",), ("self", 0, 0), (), [], ("Self", 0), ("through", 0), ("given", 0),
                ("rule", 0), ("rule", ()), ("rule", 0, (), ()), ("through", 0, 0, 0), ("through", (0, 0)), (None, 0),
                (["self"], 0), ("rule", 0, 0), ("rule", 0, "0"), ("rule", 0, {}), ("never",), ("not after", 0, 0),
                ("self", 3), ("given", 3, 0), ("given", 0, 2), ("rule", 5, ()), {"self": 0}, {0, "self"}]
        for wrong in NO_NUMBERS:
            rows += [("self", wrong), ("given", wrong, 0), ("given", 0, wrong), ("rule", wrong, ())]
            if wrong not in (-1, -7) or isinstance(wrong, bool):
                rows += [("through", wrong, 0), ("through", 0, wrong), ("rule", 0, (wrong,)), ("rule", 2, (0, wrong))]
        for row in rows:
            for before in ((), STEPS[:1], STEPS[:3]):
                self.fault("row", before + (row, None), GOAL)
        self.fault("row", (("given", 0, 0),), Rule((), NEVER))
        self.same(steps_fault(Rules(0, ()), Rule((), NEVER), (("self", 0),)), "row")
        self.same(steps_fault(Rules(0, ()), Rule((), NEVER), (("rule", 0, ()),)), "row")

    def test_back(self):
        for row in (("through", 0, 1), ("through", 1, 0), ("through", -1, 0), ("through", 0, -1), ("through", 5, 0),
                    ("rule", 2, (0, 1)), ("rule", 2, (0, -1)), ("rule", 0, (1,)), ("rule", 2, (0, 0, 0, 7))):
            self.fault("back", (("self", 0), row, None), GOAL)
        for row in (("through", 6, 6), ("through", 0, 6), ("through", 6, 0), ("rule", 0, (6,)), ("rule", 3, (3, 6))):
            self.fault("back", STEPS + (row,), GOAL)

    def test_through(self):
        for row in (("through", 0, 0), ("through", 1, 1), ("through", 2, 0), ("through", 4, 3)):
            self.fault("through", STEPS[:5] + (row, None), GOAL)

    def test_premise(self):
        for row in (("rule", 0, (0,)), ("rule", 0, (0, 1)), ("rule", 2, ()), ("rule", 2, (0,)), ("rule", 2, (1, 0)),
                    ("rule", 2, (0, 0)), ("rule", 2, (0, 1, 0)), ("rule", 2, (0, 1, 0, 1)), ("rule", 3, (0, 1)),
                    ("rule", 4, (0, 1, 4, 4)), ("rule", 4, (0, 1, 4, 3, 0, 1)), ("rule", 4, (0, 1, 0, 1, 4, 4))):
            self.fault("premise", STEPS[:5] + (row, None), GOAL)

    def test_end(self):
        for many in (1, 2, 3, 4, 5, 6):
            self.fault("end", STEPS[:many])
        self.fault("end", STEPS[:3], GOAL)
        self.fault("end", (("self", 0),), GOAL)
        self.fault("end", STEPS + (("self", 0),))
        self.fault("end", STEPS[:1], Rule((), ("not after", 1, 0)))

    def test_the_first_word(self):
        self.fault("back", (("through", 0, 0), None))
        self.fault("row", (("through", 0, None),))
        self.fault("back", STEPS[:2] + (("rule", 2, (0, 1, 2)),))
        self.fault("through", STEPS[:5] + (("through", 0, 0), ("through", 9, 9)))

    def test_spoiled_steps(self):
        picker = random.Random(87)
        words = {}
        for rules in some_rules(3, 60, 9) + some_rules(4, 30, 9):
            goals = [some_rule(picker, rules.size) for _ in range(3)]
            for goal in goals:
                result = show_rule(rules, goal)
                if isinstance(result, Shown):
                    for _ in range(25):
                        steps = ways_to_spoil(picker, result.steps)
                        wanted = fault_of_steps(rules, goal, steps)
                        self.same(steps_fault(rules, goal, steps), wanted)
                        words[wanted] = words.get(wanted, 0) + 1
        for word in (None, "row", "back", "through", "premise", "end", "steps"):
            self.assertGreater(words.get(word, 0), 10, words)
