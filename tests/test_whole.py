"""Tests of [0.8] to [0.12] over the whole program: each function and class of the interface, with some arguments."""

import copy
import importlib
import inspect
import types

from earliestlots import errors
from earliestlots.bench import Bench
from earliestlots.books import Book
from earliestlots.clauses import Clause
from earliestlots.closings import SpoiltAt
from earliestlots.keeps import Broken, BrokenOver
from earliestlots.named import after_all_of, after_one_of, before_relation, between_relation, two_first_relation
from earliestlots.numbering import Late
from earliestlots.papers import Stripped, Stuck, paper_of, strip_book
from earliestlots.relations import Relation, full_relation
from earliestlots.rests import Stray
from earliestlots.rising import Rise
from earliestlots.ruleclosing import Closed, Never, close_rules
from earliestlots.ruled import NotRuled
from earliestlots.rules import Rule, Rules
from earliestlots.rulesteps import NotShown, Shown
from earliestlots.saying import Barred, Needed, Said, Unsaid, needed_members
from earliestlots.search import Misled
from earliestlots.sortings import BrokenSorting
from earliestlots.stripping import left_of
from earliestlots.works import Works
from tests.helper import Checks
from tests.test_interface import FUNCTIONS, METHODS

BEFORE, ODD, BETWEEN = before_relation(), two_first_relation(), between_relation()
BOOK = Book(3, [(BEFORE, [0, 1]), (after_one_of(3), [2, 0, 1])])
LOOP = Book(2, [(BEFORE, [0, 1]), (BEFORE, [1, 0])])
LEFT, STUCK = left_of(BOOK), left_of(LOOP)
RULES = Rules(3, [Rule([], ["not after", 0, 1]), Rule([[0, 1]], ["not after", 2, 0])])
NEVER = Rules(2, [Rule([[0, 0]], ["never"])])
GOAL = Rule([[1, 0]], ["not after", 2, 1])
WORKS = Works([["none"], ["all", [0]], ["one", [1, 0]], ["one", [3]]])
CLAUSES = [Clause(1, [0], []), Clause(2, [1], [0])]
FACT = [BEFORE, [0, 2]]
STEPS = [["rule", 0, []], ["self", 1]]

# For each function and class of the interface the arguments of some calls, with lists where they are let.
CALLS = {
    "standings": {
        "is_whole": [(3, 0, 5), (True,)], "check_standing": [([1, 0], 2)], "standing_of": [([5, 2, 5],)],
        "check_places": [([1, 0], 3)], "cut_down": [([0, 1, 2, 1], [2, 1])], "ranks_number": [([0, 1],)],
        "turned_standing": [([0, 0, 1],)], "front_of": [([1, 0, 0],)], "layers_of": [([1, 0, 1],)],
        "standing_of_layers": [([[1], [0, 2]],)]},
    "countings": {
        "choose_of": [(5, 2)], "power_of": [(3, 4)], "all_standings": [(3,)], "count_standings": [(7,)],
        "number_of_standing": [([1, 0, 2],)], "standing_of_number": [(4, 33)]},
    "dates": {
        "check_dates": [([1, 1, 0], 3)], "unlike_dates": [([1, 1, 0],)], "check_lot": [([2, 0], [0, 1, 2])],
        "lot_key": [([1, 2],)], "sorted_lots": [([[1, 2], [3], [3]],)]},
    "standtext": {"standing_text": [([0, 1, 0],)], "standing_of_text": [("0 1 0",)]},
    "relations": {
        "full_relation": [(2,)], "empty_relation": [(3,)], "one_standing": [([0, 1],)], "meet_of": [(ODD, BETWEEN)],
        "join_of": [(ODD, BETWEEN)], "left_out": [(ODD,)], "turned_relation": [(ODD,)],
        "Relation": [(2, [[0, 1], [0, 0]])]},
    "named": {
        "before_relation": [()], "not_after_relation": [()], "tied_relation": [()], "unlike_relation": [()],
        "between_relation": [()], "two_first_relation": [()], "after_one_of": [(3,)], "after_all_of": [(4,)],
        "with_or_after_one_of": [(2,)]},
    "joining": {
        "renamed": [(ODD, [2, 0, 1])], "without_place": [(ODD, 1)], "set_beside": [(BEFORE, BEFORE)],
        "defined_by": [(3, [[BEFORE, [0, 2]], (BEFORE, [2, 1])], [0, 1])], "made_equal": [(ODD, [4, 1, 4])]},
    "linings": {
        "all_linings": [(2, 2)], "count_linings": [(9, 9)], "check_lining": [([0, 1], [1, 0], [2, 0, 1])],
        "moments_of": [([0, 1], [1, 0], [2, 0, 1])], "lining_of": [([3, 5], [5, 9])],
        "cut_lining": [([0, 1], [1, 0], [2, 0, 1], [1])]},
    "deeds": {
        "check_deed": [("odd",)], "made_by": [("common", [0, 1], [1, 0], [2, 2])], "taken_over": [([0, 1], 1, [0, 0])],
        "over_lining": [([0, 1], 1, [0, 0])], "all_made": [("odd", [0, 1], [1, 0])],
        "lining_for": [("lesser", [0, 1], [1, 0], [0, 0]), ("odd", [0, 1], [0, 1], [1, 0])]},
    "keeps": {
        "is_kept": [(ODD, "odd")], "broken_by": [(ODD, "lesser"), (ODD, "odd")], "broken_over": [(BETWEEN,), (ODD,)],
        "broken_fault": [(ODD, "lesser", Broken([0, 0, 1], [0, 1, 0], [2, 2]))],
        "over_fault": [(BETWEEN, BrokenOver([0, 1, 2], 1, [2, 1, 0]))],
        "grown_fault": [(BEFORE, "odd", []), (BEFORE, "odd", [[[0, 1], [0, 1], [2, 2], [0, 1]]])],
        "grown_by": [(BETWEEN, "common")], "grown_over": [(BETWEEN,)], "grown_steps": [(BETWEEN, "lesser")],
        "Broken": [((0,), (0,), (2,))], "BrokenOver": [((0,), 1, (0,))]},
    "lots": {
        "earliest_lots": [(ODD,)], "rest_by": [(ODD, [1, 0])], "rest_after": [(ODD, [[1, 0]])],
        "closing_of": [("odd",)], "combined_lots": [("sums", [0, 1], [1, 2])],
        "greatest_within": [([[0], [1, 2]], [2, 0])], "least_holding": [([[0, 1], [1, 2]], [1])],
        "equations_of": [([[0, 1], [1, 2]], [2, 1, 0])]},
    "rests": {
        "all_rests": [(BETWEEN,)], "stray_at": [(BETWEEN,), (ODD,)],
        "stray_fault": [(BETWEEN, Stray([], [0], [2, 1, 0])), (BETWEEN, Stray([[0]], [1], [0, 1]))],
        "over_by_lots": [(ODD,)], "over_from": [(BETWEEN, Stray([], [0], [2, 1, 0]))], "Stray": [((), (0,), (0,))]},
    "closings": {
        "lacking_pair": [([(0,), (1,)], "joining"), ([(0,)], "sums")], "kept_by_lots": [(ODD, "odd")],
        "spoilt_at": [(ODD, "lesser"), (ODD, "odd")],
        "spoilt_fault": [(ODD, SpoiltAt("lesser", [], [[0, 1], [2, 0], [2, 1, 0]]))],
        "broken_from": [(ODD, SpoiltAt("lesser", [], [[0, 1], [2, 0], [2, 1, 0]]))],
        "SpoiltAt": [("odd", (), ((0,), (1,), (0, 1)))]},
    "books": {
        "equal_book": [(BOOK,)], "turned_book": [(BOOK,)], "book_with": [(BOOK, FACT)], "book_without": [(BOOK, 0)],
        "fit_fault": [(BOOK, [0, 1, 1]), (BOOK, [0, 0, 0])], "fits_book": [(BOOK, [0, 1, 1])], "not_over": [(BOOK,)],
        "ways_of": [(BOOK,)], "way_of": [(BOOK,)], "Book": [(3, [FACT, FACT])]},
    "booktext": {"book_text": [(BOOK,)], "book_of_text": [("dates 2\n0 1: 0 0, 0 1",)]},
    "stripping": {
        "left_of": [(BOOK,)], "all_fitting": [(LEFT,)], "left_book": [(LEFT.take_lot([0]),)], "knot_of": [(LOOP,)]},
    "finders": {
        "strike_rows": [(STUCK,)], "unstruck_dates": [(LEFT,)], "sums_basis": [(LEFT,)],
        "grown_lot": [(LEFT, 0), (STUCK, 0)]},
    "papers": {
        "strip_book": [(BOOK,), (LOOP,)], "paper_of": [(STUCK, way) for way in ("lesser", "odd", "common")],
        "paper_fault": [(STUCK, paper_of(STUCK, way)) for way in ("lesser", "odd", "common")] + [(STUCK, ["struck", []])],
        "strip_fault": [(BOOK, strip_book(BOOK)), (LOOP, strip_book(LOOP)), (BOOK, Stripped([[0], [1, 2]], [0, 1, 1]))],
        "Stripped": [((), ())], "Stuck": [((), (0,), ("struck", ()))]},
    "search": {
        "search_dating": [(BOOK,), (LOOP,)], "misled_by": [(Book(3, [(BETWEEN, (0, 1, 2))]),), (BOOK,)],
        "misleading_book": [(BETWEEN,), (ODD,)], "Misled": [(((0,),), (0, 1))]},
    "clauses": {
        "all_clauses": [(2,)], "clause_holds": [(CLAUSES[1], [0, 1, 1])], "clause_implies": [tuple(CLAUSES)],
        "broken_clause": [([0, 1, 1], 1)], "clauses_in": [(BEFORE,)], "least_clauses": [(after_one_of(3),)],
        "clauses_relation": [(3, CLAUSES)], "Clause": [(1, [2, 0, 2], [3])]},
    "saying": {
        "said_by": [(BEFORE,), (ODD,)], "few_clauses": [(BEFORE,), (ODD,)],
        "needed_members": [(ODD, [0, 0, 0]), (BEFORE, [1, 0])],
        "needed_fault": [(ODD, [0, 0, 0], needed_members(ODD, [0, 0, 0])), (ODD, [0, 1, 1], Needed([[0, 0, 1]], []))],
        "Said": [((),)], "Unsaid": [((0,),)], "Needed": [(((0,),), ())], "Barred": [(CLAUSES[0],)]},
    "rising": {
        "clauses_of": [(BOOK,)], "clause_fact": [(CLAUSES[1],)], "risen_heights": [(3, CLAUSES)], "Rise": [(3, CLAUSES)]},
    "earliest": {"not_lesser": [(BOOK,)], "earliest_dates": [(BOOK,), (LOOP,)], "latest_dates": [(LOOP,)]},
    "numbering": {
        "check_numbers": [(BOOK, [9, 9, 0])], "numbers_fit": [(BOOK, [9, 9, 0])],
        "lesser_numbers": [(BOOK, [0, 5, 5], [1, 2, 9])], "earliest_from": [(BOOK, [4, 0, 0]), (LOOP, [0, 0])],
        "put_off": [(BOOK, [0, 1, 1], 1, 5)], "dated_within": [(BOOK, [4, 0, 0], [9, 9, 9]), (BOOK, [4, 0, 0], [4, 4, 4])],
        "earliest_fault": [(BOOK, [0, 1, 1]), (BOOK, [0, 1, 2])], "Late": [(1, 5)]},
    "works": {
        "rounds_of": [(WORKS,)], "is_knot": [(WORKS, [3, 3])], "greatest_knot": [(WORKS,)], "works_book": [(WORKS,)],
        "Works": [([["none"], ["one", [1, 0]]],)]},
    "alldatings": {
        "all_datings": [(BOOK,)], "count_datings": [(BOOK,)], "number_of_dating": [(BOOK, [0, 1, 2])],
        "dating_of_number": [(BOOK, 2)]},
    "rules": {
        "broken_rule": [(RULES, [1, 0, 0]), (RULES, [0, 0, 0])], "Rule": [([[0, 1]], ["not after", 1, 2])],
        "Rules": [(3, [GOAL, GOAL])]},
    "rulesteps": {
        "show_rule": [(RULES, GOAL), (RULES, Rule([], ["never"]))], "steps_fault": [(RULES, GOAL, STEPS)],
        "Shown": [((("self", 0),),)], "NotShown": [((0,),)]},
    "ruleclosing": {
        "close_rules": [(RULES,), (NEVER,)], "apart_dating": [(close_rules(RULES),)], "Closed": [(((0,),), ())],
        "Never": [((("rule", 0, ()),),)]},
    "sortings": {
        "sorted_over": [([0, 0, 1], 1, [1, 0, 0])], "broken_sorting": [(BETWEEN,), (BEFORE,)],
        "BrokenSorting": [((0,), 1, (0,))]},
    "ruled": {
        "rules_for": [(BEFORE,), (ODD,)], "rules_book": [(RULES,)], "book_rules": [(LOOP,)], "NotRuled": [((0,),)]},
    "following": {
        "fact_follows": [(BOOK, FACT), (BOOK, [BEFORE, [1, 0]])], "may_be": [(BOOK, FACT), (BOOK, [BEFORE, [1, 0]])],
        "surely_shown": [(BOOK, [2, 0])]},
    "mends": {"struck_mends": [(LOOP,)], "least_clashes": [(LOOP,)]},
    "picking": {
        "pick_facts": [(BOOK, [[BEFORE, [1, 2]], FACT], [["surely", FACT], ["dated"]]), (LOOP, [LOOP.facts[0]], [["dated"]])]},
    "edits": {
        "check_edit": [(BOOK, ["add", BEFORE, [0, 0]]), (BOOK, ["tie", 0, 2])], "edited_book": [(BOOK, ["tie", 0, 2])],
        "edited_through": [(BOOK, [["date"], ["drop", 0]])], "led_back": [(BOOK, ["tie", 0, 2], [0, 1])]},
    "bench": {"Bench": [(BOOK,)]},
}

# An object of each class with ==, made anew.
EQUALS = [
    lambda: Relation(2, [(0, 1)]), lambda: Book(2, [(BEFORE, (0, 1))]), lambda: Clause(0, (1,), (2,)),
    lambda: Works([("one", (0,))]), lambda: Rule([(0, 1)], ("not after", 1, 2)), lambda: Rules(3, [GOAL]),
    lambda: Rise(3, CLAUSES), lambda: Broken((0, 1), (1, 0), (2, 2)), lambda: BrokenOver((0, 1), 1, (1, 0)),
    lambda: BrokenSorting((0, 1), 1, (1, 0)), lambda: Stray((), (0,), (0, 1)),
    lambda: SpoiltAt("odd", (), ((0,), (1,), (0, 1))), lambda: Stripped(((0,),), (0,)),
    lambda: Stuck((), (0,), ("struck", ())), lambda: Misled(((0,),), (0, 1)), lambda: Said((CLAUSES[0],)),
    lambda: Unsaid((0, 0)), lambda: Needed(((0,),), ()), lambda: Barred(CLAUSES[0]), lambda: Late(1, 5),
    lambda: Shown((("self", 0),)), lambda: NotShown((0, 1)), lambda: Closed(((0,),), ()),
    lambda: Never((("rule", 0, ()),)), lambda: NotRuled((0, 1))]

# Classes of the interface that have no ==.
WITHOUT = {"Left", "Bench"}


def plain(thing):
    """The thing with its classes and attributes, all within it too, as what can be compared."""
    if isinstance(thing, (list, tuple)):
        return (type(thing).__name__, [plain(part) for part in thing])
    if hasattr(thing, "__dict__") and not isinstance(thing, type):
        return (type(thing).__name__, {name: plain(value) for name, value in vars(thing).items()})
    return (type(thing).__name__, thing)


def kinds_in(thing):
    """The names of all classes in what plain returned."""
    kind, held = thing
    if isinstance(held, dict):
        held = list(held.values())
    elif not isinstance(held, list):
        held = []
    return {kind}.union(*[kinds_in(part) for part in held])


def called(function, args):
    """What the function returns; all items of a generator as a tuple."""
    result = function(*args)
    return tuple(result) if inspect.isgenerator(result) else result


class WholeTests(Checks):

    def calls(self):
        """Each function or class with the arguments of each call."""
        for module, rows in CALLS.items():
            held = importlib.import_module(f"earliestlots.{module}")
            for name, calls in rows.items():
                for args in calls:
                    yield getattr(held, name), args

    def test_all_of_the_interface_is_called(self):
        for module, rows in FUNCTIONS.items():
            self.assertEqual({row.split("(")[0] for row in rows}, set(CALLS[module]), module)
        self.assertEqual(set(FUNCTIONS), set(CALLS))

    def test_nothing_that_is_passed_in_is_changed(self):
        for function, args in self.calls():
            before = plain(args)
            called(function, args)
            self.assertEqual(plain(args), before, function.__name__)

    def test_equal_arguments_give_equal_results(self):
        for function, args in self.calls():
            first = plain(called(function, args))
            for again in (args, copy.deepcopy(args)):
                self.assertEqual(plain(called(function, again)), first, function.__name__)

    def test_sequences_that_are_returned_are_tuples(self):
        for function, args in self.calls():
            result = called(function, args)
            for part in kinds_in(plain(result)):
                self.assertNotIn(part, ("list", "set", "dict", "generator"), function.__name__)

    def test_results_do_not_change_when_what_was_passed_in_does(self):
        for function, args in self.calls():
            passed = copy.deepcopy(args)
            result = called(function, passed)
            before = plain(result)
            for part in passed:
                if isinstance(part, list):
                    part.clear()
            self.assertEqual(plain(result), before, function.__name__)

    def test_true_and_false_are_no_numbers(self):
        for function, args in self.calls():
            for index, part in enumerate(args):
                if type(part) is int and function.__name__ not in (
                        "is_whole", "choose_of", "power_of", "Late", "BrokenOver", "BrokenSorting"):
                    for wrong in (True, False):
                        with self.assertRaises(errors.DateError, msg=function.__name__):
                            called(function, args[:index] + (wrong,) + args[index + 1:])


class EqualityTests(Checks):

    def test_each_class_with_equality_is_here(self):
        found = {name for (_, name), _ in METHODS.items()} - WITHOUT
        self.assertEqual({type(make()).__name__ for make in EQUALS}, found)
        self.assertEqual(len(EQUALS), len(found))
        for make in EQUALS:
            self.assertIn("__eq__", vars(type(make())))

    def test_equal_exactly_if_class_and_attributes_are(self):
        for make in EQUALS:
            thing = make()
            self.assertTrue(thing == make())
            self.assertFalse(thing != make())
            self.assertEqual(thing, copy.deepcopy(thing))
            for name in vars(thing):
                other = make()
                setattr(other, name, ("something", "else"))
                self.assertFalse(thing == other, name)
                self.assertFalse(other == thing, name)

    def test_another_class_with_the_same_attributes(self):
        for make in EQUALS:
            thing = make()
            others = [types.SimpleNamespace(**vars(thing)), type("Other", (), dict(vars(thing)))(),
                      tuple(vars(thing).values()), vars(thing), None, 0, True, "", (), object()]
            for row in EQUALS:
                other = row()
                if type(other) is not type(thing):
                    # Each class is tried with just the attributes of this one.
                    lookalike = object.__new__(type(other))
                    vars(lookalike).update(vars(thing))
                    others.append(lookalike)
            for other in others:
                self.assertFalse(thing == other)
                self.assertFalse(other == thing)
                self.assertTrue(thing != other)


class UnchangingTests(Checks):

    def test_objects_do_not_change_by_their_methods(self):
        rise, rules, bench = Rise(3, CLAUSES), Rules(3, [GOAL]), Bench(BOOK)
        for thing, uses in (
                (BEFORE, [lambda: BEFORE.holds([0, 1]), lambda: list(BEFORE), lambda: len(BEFORE)]),
                (LEFT, [lambda: LEFT.take_lot([0]), lambda: LEFT.misfit([1]), lambda: LEFT.fits_lot([0]),
                        lambda: LEFT.left_fact(0)]),
                (rise, [lambda: rise.broken, lambda: rise.rise_by(0), lambda: CLAUSES[0].width]),
                (rules, [lambda: list(rules), lambda: len(rules)]),
                (bench, [lambda: bench.outcome(), lambda: bench.lead_back([0, 0, 0]), lambda: list(bench),
                         lambda: bench.tried(lambda passed: passed.put_edit(("turn",)))])):
            before = plain(thing)
            for use in uses:
                first = plain(use())
                self.assertEqual(plain(use()), first)
                self.assertEqual(plain(thing), before)

    def test_every_error_is_straight_under_date_error(self):
        found = [thing for thing in vars(errors).values() if isinstance(thing, type)]
        self.assertEqual(len(found), 43)
        for thing in found:
            wanted = ValueError if thing is errors.DateError else errors.DateError
            self.assertEqual(thing.__bases__, (wanted,))

    def test_no_other_module_defines_an_error(self):
        for module in list(CALLS):
            held = vars(importlib.import_module(f"earliestlots.{module}"))
            for thing in held.values():
                if isinstance(thing, type) and issubclass(thing, BaseException):
                    self.assertEqual(thing.__module__, "earliestlots.errors")

    def test_full_relation_of_a_book_at_its_bounds(self):
        facts = [(full_relation(4), (0, 1, 2, 3)), (after_all_of(4), (6, 5, 4, 3))] * 6
        self.assertEqual(len(Book(7, facts)), 12)
        self.wrong(errors.BadBook, {"index": -1, "what": "many"}, Book, 7, facts + facts[:1])
        self.wrong(errors.BadBook, {"index": -1, "what": "size"}, Book, 8, facts)
