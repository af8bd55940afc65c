"""Tests of [8.1] and [8.2]."""

from earliestlots.errors import BadRule, BadRules, BadStanding
from earliestlots.rules import Rule, Rules, broken_rule
from tests.helper import NO_NUMBERS, NO_SEQUENCES, NO_STANDINGS_OF_2, Checks, standings_by_trying
from tests.rulehelper import keeps_as_told, plain_rules, some_rules

NEVER = ("never",)
NO_PREMISES = NO_SEQUENCES[:3] + ("01", {0: 1, 1: 0}, (), (0,), (0, 1, 2), [], ((0, 1),), ("0", "1"), {0, 1})


class RuleTests(Checks):

    def test_attributes(self):
        rule = Rule([[0, 1], (6, 2), [0, 1], (3, 3)], ["not after", 5, 5])
        self.same(rule.premises, ((0, 1), (6, 2), (0, 1), (3, 3)))
        self.same(rule.end, ("not after", 5, 5))
        rule = Rule((), ["never"])
        self.same((rule.premises, rule.end), ((), NEVER))
        self.same(Rule([], ("not after", 6, 0)).end, ("not after", 6, 0))

    def test_equality(self):
        self.assertEqual(Rule([[0, 1]], NEVER), Rule(((0, 1),), ["never"]))
        self.assertNotEqual(Rule([(0, 1)], NEVER), Rule([(1, 0)], NEVER))
        self.assertNotEqual(Rule([(0, 1)], NEVER), Rule([(0, 1), (0, 1)], NEVER))
        self.assertNotEqual(Rule((), NEVER), Rule((), ("not after", 0, 0)))
        self.assertNotEqual(Rule((), ("not after", 0, 1)), Rule((), ("not after", 1, 0)))
        self.assertNotEqual(Rule((), NEVER), ((), NEVER))

    def test_bad_premises(self):
        couple = (0, 1)
        for wrong in NO_SEQUENCES + ([couple] * 5, {couple: 1}):
            self.wrong(BadRule, {"what": "premises"}, Rule, wrong, None)
        for wrong in NO_PREMISES:
            self.wrong(BadRule, {"what": "premises"}, Rule, [wrong], None)
            self.wrong(BadRule, {"what": "premises"}, Rule, (couple, couple, couple, wrong), NEVER)
        for number in NO_NUMBERS + (7, 100):
            self.wrong(BadRule, {"what": "premises"}, Rule, [(number, 0)], NEVER)
            self.wrong(BadRule, {"what": "premises"}, Rule, [couple, [0, number]], None)

    def test_bad_end(self):
        wrong = NO_SEQUENCES + (
            (), [], ("never", 0), ("Never",), "never", ("not after",), ("not after", 0), ("not after", 0, 1, 2),
            ("not after", (0, 1)), ("after", 0, 1), ("never", 0, 1), (0, 1), (None, 0, 1), (["never"],), (("never",),))
        for end in wrong:
            self.wrong(BadRule, {"what": "end"}, Rule, [(0, 1)], end)
        for number in NO_NUMBERS + (7,):
            self.wrong(BadRule, {"what": "end"}, Rule, (), ("not after", number, 0))
            self.wrong(BadRule, {"what": "end"}, Rule, (), ["not after", 0, number])

    def test_nothing_is_kept_or_changed(self):
        premises, end = [[0, 1]], ["not after", 1, 0]
        rule = self.unchanged(Rule, premises, end)
        rule = Rule(premises, end)
        premises[0][0] = 5
        premises.append([3, 3])
        end[1] = 6
        self.same((rule.premises, rule.end), (((0, 1),), ("not after", 1, 0)))


class RulesTests(Checks):

    def test_attributes_length_iteration(self):
        rows = [Rule((), NEVER), Rule([(0, 2)], ("not after", 1, 1)), Rule((), NEVER)]
        rules = Rules(3, rows)
        self.same(rules.size, 3)
        self.same(rules.rules, tuple(rows))
        self.same(len(rules), 3)
        self.assertEqual(list(rules), rows)
        self.assertEqual(list(rules), rows)
        self.same(Rules(0, []).rules, ())
        self.same(len(Rules(7, rows[:1] * 80)), 80)
        rows.append(None)
        self.same(len(rules), 3)

    def test_equality(self):
        one, other = Rule((), NEVER), Rule([(0, 1)], NEVER)
        self.assertEqual(Rules(2, [one, other]), Rules(2, (one, other)))
        self.assertNotEqual(Rules(2, [one, other]), Rules(2, [other, one]))
        self.assertNotEqual(Rules(2, [one]), Rules(3, [one]))
        self.assertNotEqual(Rules(2, [one]), Rules(2, [one, one]))
        self.assertNotEqual(Rules(2, [one]), (one,))

    def test_bad_size_then_many(self):
        for size in NO_NUMBERS + (8,):
            self.wrong(BadRules, {"index": -1, "what": "size"}, Rules, size, None)
        rule = Rule((), NEVER)
        for wrong in NO_SEQUENCES + ([rule] * 81, [None] * 81, Rules(2, [rule])):
            self.wrong(BadRules, {"index": -1, "what": "many"}, Rules, 2, wrong)

    def test_bad_entries(self):
        good = Rule([(0, 1)], ("not after", 1, 0))
        for wrong in NO_SEQUENCES + (((), NEVER), [(), NEVER], Rules(2, ()), NEVER):
            self.wrong(BadRules, {"index": 0, "what": "rule"}, Rules, 2, [wrong, good])
            self.wrong(BadRules, {"index": 1, "what": "rule"}, Rules, 2, (good, wrong))
        for rule in (Rule([(0, 2)], NEVER), Rule([(2, 0)], NEVER), Rule((), ("not after", 2, 0)),
                     Rule((), ("not after", 0, 6)), Rule([(0, 1), (2, 2)], NEVER)):
            self.wrong(BadRules, {"index": 0, "what": "date"}, Rules, 2, [rule, None])
            self.wrong(BadRules, {"index": 2, "what": "date"}, Rules, 2, [good, good, rule])
            self.assertEqual(len(Rules(7, [rule])), 1)
        self.wrong(BadRules, {"index": 0, "what": "date"}, Rules, 0, [Rule((), ("not after", 0, 0))])
        self.assertEqual(len(Rules(0, [Rule((), NEVER)])), 1)

    def test_nothing_is_changed(self):
        self.unchanged(Rules, 2, [Rule((), NEVER)])


class BrokenRuleTests(Checks):

    def test_one_rule(self):
        for size in range(4):
            for rule in plain_rules(size):
                for dating in standings_by_trying(size):
                    wanted = None if keeps_as_told(rule, dating) else 0
                    self.same(broken_rule(Rules(size, [rule]), dating), wanted)
                    self.same(broken_rule(Rules(size, [rule]), list(dating)), wanted)

    def test_the_least_number(self):
        for rules in some_rules(3, 60, 6) + some_rules(4, 20, 6):
            for dating in standings_by_trying(rules.size):
                broken = [number for number, rule in enumerate(rules) if not keeps_as_told(rule, dating)]
                self.same(broken_rule(rules, dating), broken[0] if broken else None)

    def test_edges(self):
        self.same(broken_rule(Rules(0, ()), ()), None)
        self.same(broken_rule(Rules(0, [Rule((), NEVER)]), ()), 0)
        # A premise (x, x) always holds, also twice, and so does the end that x is not after x.
        rule = Rule([(1, 1), (1, 1)], ("not after", 0, 1))
        for dating in standings_by_trying(2):
            self.same(broken_rule(Rules(2, [rule]), dating), 0 if dating == (1, 0) else None)
            self.same(broken_rule(Rules(2, [Rule((), ("not after", 1, 1))]), dating), None)
        late = [Rule((), ("not after", 0, 6))] * 79 + [Rule((), ("not after", 6, 0))]
        self.same(broken_rule(Rules(7, late), (0, 1, 2, 3, 4, 5, 6)), 79)
        self.same(broken_rule(Rules(7, late), (0,) * 7), None)

    def test_bad_standings(self):
        rules = Rules(2, [Rule((), NEVER)])
        for wrong, index in NO_STANDINGS_OF_2:
            self.wrong(BadStanding, {"index": index}, broken_rule, rules, wrong)

    def test_nothing_is_changed(self):
        self.unchanged(broken_rule, Rules(2, [Rule([(0, 1)], NEVER)]), [0, 0])


class PlainRulesTests(Checks):

    def test_they_are_all_but_for_what_says_the_same(self):
        self.assertEqual([len(plain_rules(size)) for size in range(4)], [1, 1, 5, 21])
