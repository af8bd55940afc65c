"""Tests that the interface of the document is there: names, arguments, and in which file each is defined."""

import importlib
import inspect
import unittest

FUNCTIONS = {
    "standings": (
        "is_whole(thing, low=None, high=None)", "check_standing(ranks, places=None)", "standing_of(keys)",
        "check_places(places, many)", "cut_down(standing, places)", "ranks_number(standing)",
        "turned_standing(standing)", "front_of(standing)", "layers_of(standing)", "standing_of_layers(layers)"),
    "countings": (
        "choose_of(many, taken)", "power_of(base, exponent)", "all_standings(places)", "count_standings(places)",
        "number_of_standing(standing)", "standing_of_number(places, number)"),
    "dates": (
        "check_dates(dates, size, most=7)", "unlike_dates(dates)", "check_lot(lot, among)", "lot_key(lot)",
        "sorted_lots(lots)"),
    "standtext": ("standing_text(standing)", "standing_of_text(text)"),
    "relations": (
        "full_relation(places)", "empty_relation(places)", "one_standing(standing)", "meet_of(one, other)",
        "join_of(one, other)", "left_out(relation)", "turned_relation(relation)", "Relation(places, standings)"),
    "named": (
        "before_relation()", "not_after_relation()", "tied_relation()", "unlike_relation()", "between_relation()",
        "two_first_relation()", "after_one_of(places)", "after_all_of(places)", "with_or_after_one_of(places)"),
    "joining": (
        "renamed(relation, places)", "without_place(relation, place)", "set_beside(one, other)",
        "defined_by(size, parts, shown)", "made_equal(relation, dates)"),
    "linings": (
        "all_linings(first, second)", "count_linings(first, second)", "check_lining(one, other, lining)",
        "moments_of(one, other, lining)", "lining_of(numbers, others)", "cut_lining(one, other, lining, places)"),
    "deeds": (
        "check_deed(deed)", "made_by(deed, one, other, lining)", "taken_over(one, cut, other)",
        "over_lining(one, cut, other)", "all_made(deed, one, other)", "lining_for(deed, one, other, wanted)"),
    "keeps": (
        "is_kept(relation, deed)", "broken_by(relation, deed)", "broken_over(relation)",
        "broken_fault(relation, deed, broken)", "over_fault(relation, broken)", "grown_fault(relation, deed, steps)",
        "grown_by(relation, deed)", "grown_over(relation)", "grown_steps(relation, deed)",
        "Broken(one, other, lining)", "BrokenOver(one, cut, other)"),
    "lots": (
        "earliest_lots(relation)", "rest_by(relation, lot)", "rest_after(relation, lots)", "closing_of(deed)",
        "combined_lots(closing, one, other)", "greatest_within(lots, places)", "least_holding(lots, places)",
        "equations_of(lots, places)"),
    "rests": (
        "all_rests(relation)", "stray_at(relation)", "stray_fault(relation, stray)", "over_by_lots(relation)",
        "over_from(relation, stray)", "Stray(before, lot, standing)"),
    "closings": (
        "lacking_pair(lots, closing)", "kept_by_lots(relation, deed)", "spoilt_at(relation, deed)",
        "spoilt_fault(relation, spoilt)", "broken_from(relation, spoilt)", "SpoiltAt(deed, before, pair)"),
    "books": (
        "equal_book(book)", "turned_book(book)", "book_with(book, fact)", "book_without(book, number)",
        "fit_fault(book, dating)", "fits_book(book, dating)", "not_over(book)", "ways_of(book)", "way_of(book)",
        "Book(size, facts)"),
    "booktext": ("book_text(book)", "book_of_text(text)"),
    "stripping": ("left_of(book)", "all_fitting(left)", "left_book(left)", "knot_of(book)"),
    "finders": ("strike_rows(left)", "unstruck_dates(left)", "sums_basis(left)", "grown_lot(left, date)"),
    "papers": (
        "strip_book(book, *, way=None)", "paper_of(left, way)", "paper_fault(left, paper)",
        "strip_fault(book, result)", "Stripped(lots, dating)", "Stuck(lots, dates, paper)"),
    "search": ("search_dating(book)", "misled_by(book)", "misleading_book(relation)", "Misled(lots, dating)"),
    "clauses": (
        "all_clauses(places)", "clause_holds(clause, standing)", "clause_implies(one, other)",
        "broken_clause(standing, place)", "clauses_in(relation)", "least_clauses(relation)",
        "clauses_relation(places, clauses)", "Clause(place, after, within)"),
    "saying": (
        "said_by(relation)", "few_clauses(relation)", "needed_members(relation, standing)",
        "needed_fault(relation, standing, result)", "Said(clauses)", "Unsaid(standing)", "Needed(members, linings)",
        "Barred(clause)"),
    "rising": ("clauses_of(book)", "clause_fact(clause)", "risen_heights(size, clauses)", "Rise(size, clauses)"),
    "earliest": ("not_lesser(book)", "earliest_dates(book)", "latest_dates(book)"),
    "numbering": (
        "check_numbers(book, numbers)", "numbers_fit(book, numbers)", "lesser_numbers(book, one, other)",
        "earliest_from(book, floors)", "put_off(book, numbers, date, moment)",
        "dated_within(book, floors, ceilings)", "earliest_fault(book, numbers, *, floors=None)", "Late(date, number)"),
    "works": (
        "rounds_of(works)", "is_knot(works, numbers)", "greatest_knot(works)", "works_book(works)", "Works(waits)"),
    "alldatings": (
        "all_datings(book)", "count_datings(book)", "number_of_dating(book, dating)", "dating_of_number(book, number)"),
    "rules": ("broken_rule(rules, dating)", "Rule(premises, end)", "Rules(size, rules)"),
    "rulesteps": (
        "show_rule(rules, rule)", "steps_fault(rules, rule, steps)", "Shown(steps)", "NotShown(dating)"),
    "ruleclosing": ("close_rules(rules)", "apart_dating(closed)", "Closed(classes, pairs)", "Never(steps)"),
    "sortings": ("sorted_over(one, cut, other)", "broken_sorting(relation)", "BrokenSorting(one, cut, other)"),
    "ruled": ("rules_for(relation)", "rules_book(rules)", "book_rules(book)", "NotRuled(standing)"),
    "following": ("fact_follows(book, fact)", "may_be(book, fact)", "surely_shown(book, dates)"),
    "mends": ("struck_mends(book)", "least_clashes(book)"),
    "picking": ("pick_facts(book, pool, wishes)",),
    "edits": (
        "check_edit(book, edit)", "edited_book(book, edit)", "edited_through(book, edits)",
        "led_back(book, edit, dating)"),
    "bench": ("Bench(start)",),
}

METHODS = {
    ("relations", "Relation"): ("__init__", "__len__", "__iter__", "__eq__", "holds(self, standing)"),
    ("keeps", "Broken"): ("__init__", "__eq__"),
    ("keeps", "BrokenOver"): ("__init__", "__eq__"),
    ("rests", "Stray"): ("__init__", "__eq__"),
    ("closings", "SpoiltAt"): ("__init__", "__eq__"),
    ("books", "Book"): ("__init__", "__len__", "__eq__"),
    ("papers", "Stripped"): ("__init__", "__eq__"),
    ("papers", "Stuck"): ("__init__", "__eq__"),
    ("search", "Misled"): ("__init__", "__eq__"),
    ("clauses", "Clause"): ("__init__", "__eq__", "width"),
    ("saying", "Said"): ("__init__", "__eq__"),
    ("saying", "Unsaid"): ("__init__", "__eq__"),
    ("saying", "Needed"): ("__init__", "__eq__"),
    ("saying", "Barred"): ("__init__", "__eq__"),
    ("rising", "Rise"): ("__init__", "__eq__", "broken", "rise_by(self, index)"),
    ("numbering", "Late"): ("__init__", "__eq__"),
    ("works", "Works"): ("__init__", "__len__", "__eq__"),
    ("rules", "Rule"): ("__init__", "__eq__"),
    ("rules", "Rules"): ("__init__", "__len__", "__iter__", "__eq__"),
    ("rulesteps", "Shown"): ("__init__", "__eq__"),
    ("rulesteps", "NotShown"): ("__init__", "__eq__"),
    ("ruleclosing", "Closed"): ("__init__", "__eq__"),
    ("ruleclosing", "Never"): ("__init__", "__eq__"),
    ("sortings", "BrokenSorting"): ("__init__", "__eq__"),
    ("ruled", "NotRuled"): ("__init__", "__eq__"),
    ("bench", "Bench"): (
        "__init__", "__len__", "__iter__", "put_edit(self, edit)", "put_all(self, edits)", "take_back(self, many=1)",
        "outcome(self)", "lead_back(self, dating)", "tried(self, work)"),
    ("stripping", "Left"): ("left_fact(self, number)", "misfit(self, lot)", "fits_lot(self, lot)", "take_lot(self, lot)"),
}


class InterfaceTests(unittest.TestCase):

    def test_names_and_arguments(self):
        for module, rows in FUNCTIONS.items():
            held = importlib.import_module(f"earliestlots.{module}")
            for row in rows:
                name = row.split("(")[0]
                thing = getattr(held, name)
                self.assertEqual(name + str(inspect.signature(thing)), row)
                self.assertEqual(thing.__module__, f"earliestlots.{module}", name)

    def test_methods_stand_in_their_class(self):
        for (module, name), methods in METHODS.items():
            found = vars(getattr(importlib.import_module(f"earliestlots.{module}"), name))
            for method in methods:
                name = method.split("(")[0]
                self.assertIn(name, found)
                if "(" in method:
                    self.assertEqual(name + str(inspect.signature(found[name])), method)

    def test_generators(self):
        for module, name in (
                ("countings", "all_standings"), ("linings", "all_linings"), ("clauses", "all_clauses"),
                ("alldatings", "all_datings")):
            held = importlib.import_module(f"earliestlots.{module}")
            self.assertTrue(inspect.isgeneratorfunction(getattr(held, name)))
