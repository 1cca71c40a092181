"""mirrorbook/errors.py: each class, its parameters, its attributes, its base."""

import unittest

from mirrorbook import errors
from tests.samples import Case, any_values

PARAMETERS = {
    "TooMany": ("most",),
    "BadText": ("line",),
    "BadField": ("thing",),
    "BadLetter": ("thing",),
    "BadPlaces": ("thing",),
    "BadPlace": ("thing",),
    "BadRows": ("number",),
    "BadWord": ("thing",),
    "BadStack": ("number",),
    "BadSet": ("thing",),
    "BadNumber": ("thing",),
    "BadTable": ("thing",),
    "BadOrder": ("thing",),
    "OtherFields": (),
    "OtherPlaces": (),
    "BadPolynomial": ("thing",),
    "BadCounts": ("thing",),
    "BadChance": ("thing",),
    "BadReader": ("thing",),
    "BadPair": ("thing",),
    "NotWithin": ("word",),
    "NoMessage": (),
    "BadQuestion": ("thing",),
    "BadPaper": ("thing",),
    "BadName": ("thing",),
    "NoName": ("name",),
    "NameTaken": ("name",),
    "InUse": ("name",),
    "BadPromise": ("thing",),
    "NoPromise": ("thing",),
    "Unkept": ("promise", "fault"),
    "NothingToUndo": (),
    "NothingToRedo": (),
    "BadChange": ("number",),
    "InvalidCommand": (),
}


class ErrorClasses(Case):
    def test_all_classes_stand_there_and_no_others(self):
        found = [name for name, thing in vars(errors).items() if isinstance(thing, type)]
        self.assertEqual(sorted(found), sorted([*PARAMETERS, "BookError"]))

    def test_each_is_directly_below_the_base_class(self):
        self.assertEqual(errors.BookError.__bases__, (Exception,))
        for name in PARAMETERS:
            self.assertEqual(getattr(errors, name).__bases__, (errors.BookError,), name)

    def test_parameters_are_attributes_by_position_and_by_name(self):
        for name, parameters in PARAMETERS.items():
            for thing in any_values():
                given = dict(zip(parameters, (thing, (thing, "second"))))
                by_position = getattr(errors, name)(*given.values())
                by_name = getattr(errors, name)(**given)
                self.assert_same(vars(by_position), given)
                self.assert_same(vars(by_name), given)

    def test_the_parameters_are_needed(self):
        for name, parameters in PARAMETERS.items():
            if parameters:
                with self.assertRaises(TypeError):
                    getattr(errors, name)()

    def test_messages_do_not_depend_on_what_is_carried(self):
        for name, parameters in PARAMETERS.items():
            one = getattr(errors, name)(*[10**5000 for _ in parameters])
            other = getattr(errors, name)(**{parameter: None for parameter in parameters})
            self.assertEqual(str(one), str(other))

    def test_each_is_caught_by_its_name_and_as_the_base_class(self):
        for name, parameters in PARAMETERS.items():
            for caught in (getattr(errors, name), errors.BookError, Exception):
                with self.assertRaises(caught):
                    raise getattr(errors, name)(*parameters)
            for other in PARAMETERS:
                if other != name:
                    error = getattr(errors, name)(*parameters)
                    self.assertNotIsInstance(error, getattr(errors, other))


if __name__ == "__main__":
    unittest.main()
