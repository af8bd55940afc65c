"""Tests of [8.3], [8.4] and of the closing in [8.11]."""

from earliestlots.ruleclosing import Closed, Never, apart_dating, close_rules
from earliestlots.rules import Rule, Rules
from earliestlots.rulesteps import steps_fault
from tests.helper import Checks, kinds_of, standings_by_trying
from tests.rulehelper import datings_of_rules, fault_of_steps, small_rules, some_rules

NEVER = ("never",)
EXAMPLE = [Rule((), ("not after", 0, 1)), Rule((), ("not after", 1, 0)), Rule([(0, 1)], ("not after", 2, 0))]
SMALL = small_rules()
SOME = [rules for size, many in ((0, 3), (1, 8), (2, 20), (3, 80), (4, 60), (5, 25))
        for most in (3, 8) for rules in some_rules(size, many, most)]


def apart_as_told(classes, pairs):
    """The standing of the classes taken one by one, by the words of [8.4]."""
    ranks = {}
    waiting = list(classes)
    while waiting:
        for row in waiting:
            others = [date for other in waiting if other is not row for date in other]
            if not any((one, other) in pairs for one in others for other in row):
                break
        for date in row:
            ranks[date] = len(classes) - len(waiting)
        waiting.remove(row)
    return tuple(ranks[date] for date in range(len(ranks)))


class CloseRulesTests(Checks):

    def check_closed(self, rules):
        """What is closed is just what all datings show."""
        datings = datings_of_rules(rules)
        result = close_rules(rules)
        if not datings:
            self.assertIs(type(result), Never)
            self.assertIsNone(fault_of_steps(rules, Rule((), NEVER), result.steps))
            self.same(steps_fault(rules, Rule((), NEVER), result.steps), None)
            self.same(result.steps, tuple_within(result.steps))
            return
        self.assertIs(type(result), Closed)
        dates = range(rules.size)
        pairs = tuple((one, other) for one in dates for other in dates
                      if one != other and all(dating[one] <= dating[other] for dating in datings))
        self.same(result.pairs, pairs)
        tied = [tuple(other for other in dates if all(dating[one] == dating[other] for dating in datings))
                for one in dates]
        self.same(result.classes, tuple(sorted(set(tied))))
        self.check_standings(result, datings, standings_by_trying(rules.size))

    def check_standings(self, closed, datings, standings):
        """Each standing that ties just the classes and keeps the pairs is a dating; so is the one taken apart."""
        fitting = [row for row in standings if all(row[one] <= row[other] for one, other in closed.pairs)
                   and len(closed.classes) == len(set(row))
                   and all(row[date] == row[tied[0]] for tied in closed.classes for date in tied)]
        self.assertTrue(set(fitting) <= set(datings))
        apart = apart_dating(closed)
        self.same(apart, apart_as_told(closed.classes, closed.pairs))
        self.assertIn(apart, fitting)

    def test_small_rules(self):
        self.assertGreater(len(SMALL), 600)
        for rules in SMALL:
            self.check_closed(rules)

    def test_some_rules(self):
        kinds = {}
        for rules in SOME:
            self.check_closed(rules)
            kind = type(close_rules(rules)).__name__
            kinds[kind] = kinds.get(kind, 0) + 1
        self.assertGreater(min(kinds.values()), 40)

    def test_example(self):
        for more in ([], [Rule([(0, 2)], NEVER)]):
            closed = close_rules(Rules(3, EXAMPLE + more))
            self.same(closed.classes, ((0, 1), (2,)))
            self.same(closed.pairs, ((0, 1), (1, 0), (2, 0), (2, 1)))
            self.same(apart_dating(closed), (1, 1, 0))
        rules = Rules(3, EXAMPLE + [Rule([(0, 2)], NEVER), Rule((), ("not after", 0, 2))])
        self.assertIsNone(fault_of_steps(rules, Rule((), NEVER), close_rules(rules).steps))

    def test_edges(self):
        self.assertEqual(close_rules(Rules(0, ())), Closed((), ()))
        self.same(apart_dating(Closed((), ())), ())
        self.assertEqual(close_rules(Rules(0, [Rule((), NEVER)])), Never((("rule", 0, ()),)))
        closed = close_rules(Rules(7, ()))
        self.same((closed.classes, closed.pairs), (((0,), (1,), (2,), (3,), (4,), (5,), (6,)), ()))
        self.same(apart_dating(closed), (0, 1, 2, 3, 4, 5, 6))
        self.assertIs(type(close_rules(Rules(1, [Rule([(0, 0)] * 4, NEVER)]))), Never)
        self.assertEqual(close_rules(Rules(1, [Rule([(0, 0)] * 4, ("not after", 0, 0))])), Closed(((0,),), ()))

    def test_7_dates_80_rules(self):
        ring = [Rule([(0, 0)], ("not after", date, (date + 1) % 7)) for date in range(7)]
        idle = [Rule([(5, 5), (5, 5)], ("not after", 1, 2))] * 72
        closed = close_rules(Rules(7, ring + idle + [Rule((), ("not after", 6, 6))]))
        self.same(closed.classes, ((0, 1, 2, 3, 4, 5, 6),))
        self.same(len(closed.pairs), 42)
        self.same(apart_dating(closed), (0,) * 7)
        rules = Rules(7, idle + ring + [Rule([(6, 3), (0, 5), (6, 3), (2, 1)], NEVER)])
        self.assertIsNone(fault_of_steps(rules, Rule((), NEVER), close_rules(rules).steps))
        back = Rules(7, [Rule((), ("not after", date + 1, date)) for date in range(6)])
        self.same(apart_dating(close_rules(back)), (6, 5, 4, 3, 2, 1, 0))

    def test_the_first_class_each_time(self):
        closed = close_rules(Rules(4, [Rule((), ("not after", 3, 0))]))
        self.same(apart_dating(closed), (3, 0, 1, 2))
        closed = close_rules(Rules(4, [Rule((), ("not after", 2, 0)), Rule((), ("not after", 3, 1))]))
        self.same(apart_dating(closed), (1, 3, 0, 2))

    def test_nothing_is_changed(self):
        rules = Rules(3, EXAMPLE)
        self.unchanged(lambda passed: close_rules(passed).pairs, rules)
        self.unchanged(apart_dating, close_rules(rules))

    def test_results_keep_what_they_are_given(self):
        classes, pairs = [1], {}
        closed, never = Closed(classes, pairs), Never(classes)
        self.assertIs(closed.classes, classes)
        self.assertIs(closed.pairs, pairs)
        self.assertIs(never.steps, classes)
        self.assertEqual(Closed(1, 2), Closed(1, 2))
        self.assertNotEqual(Closed(1, 2), Closed(1, 3))
        self.assertNotEqual(Closed(1, 2), Closed(2, 2))
        self.assertEqual(Never((1,)), Never((1,)))
        self.assertNotEqual(Never((1,)), Never((2,)))
        self.assertNotEqual(Never((1,)), (1,))


def tuple_within(thing):
    """The thing with all lists and tuples within it as tuples."""
    if isinstance(kinds_of(thing), tuple):
        return tuple(tuple_within(part) for part in thing)
    return thing
