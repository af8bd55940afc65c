"""Tests of [0.10] and of the list of error classes."""

import inspect

from earliestlots import errors
from tests.helper import Checks

ATTRIBUTES = {
    "BadStanding": ("index",), "BadPlaces": ("index",), "BadLayers": ("index",), "BadCount": ("what",),
    "BadNumber": (), "BadDates": ("index",), "BadLot": ("index",), "BadText": ("place",),
    "BadRelation": ("what",), "OtherPlaces": (), "TooMany": ("most",), "BadParts": ("index",),
    "BadLining": ("index",), "BadDeed": (), "BadCut": (), "NoLot": ("index",), "BadClosing": (),
    "BadStray": ("what",), "BadSpoilt": ("what",), "BadBook": ("index", "what"), "NoFact": ("number",),
    "NotFitting": ("fact",), "NoDate": ("date",), "NoWay": (), "NotStuck": (), "NotOver": ("fact",),
    "BadClause": ("what",), "BadPlace": (), "NotBroken": ("index",), "NotLesser": ("fact",), "NotFit": (),
    "BadNumbers": ("index",), "BadMoment": (), "BadWorks": ("index",), "BadRule": ("what",),
    "BadRules": ("index", "what"), "NotAFact": ("number",), "NotRuledFact": ("fact",), "BadPool": ("index",),
    "BadWish": ("index",), "BadEdit": ("index",), "NothingDone": (),
}


class ErrorTests(Checks):

    def test_date_error_is_straight_under_value_error(self):
        self.assertEqual(errors.DateError.__bases__, (ValueError,))

    def test_just_the_listed_classes_are_there(self):
        found = {name for name, thing in vars(errors).items() if inspect.isclass(thing)}
        self.assertEqual(found, set(ATTRIBUTES) | {"DateError"})
        self.assertEqual(len(ATTRIBUTES), 42)

    def test_each_class_is_straight_under_date_error_and_defined_here(self):
        for name in ATTRIBUTES:
            error = getattr(errors, name)
            self.assertEqual(error.__bases__, (errors.DateError,), name)
            self.assertEqual(error.__module__, "earliestlots.errors", name)

    def test_attributes_are_taken_in_their_order_and_not_checked(self):
        for name, attributes in ATTRIBUTES.items():
            for given in ([7, "places"], ["x", None], [[1], {}], [10 ** 5000, True]):
                passed = given[:len(attributes)]
                made = getattr(errors, name)(*passed)
                self.assertEqual(vars(made), dict(zip(attributes, passed)), name)
                for attribute, value in zip(attributes, passed):
                    self.assertIs(getattr(made, attribute), value)

    def test_attributes_may_be_passed_by_name(self):
        for name, attributes in ATTRIBUTES.items():
            made = getattr(errors, name)(**{attribute: attribute + "!" for attribute in attributes})
            self.assertEqual(vars(made), {attribute: attribute + "!" for attribute in attributes})

    def test_each_error_can_be_raised_and_caught_as_a_value_error(self):
        for name, attributes in ATTRIBUTES.items():
            with self.assertRaises(ValueError):
                raise getattr(errors, name)(*range(len(attributes)))
