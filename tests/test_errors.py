"""The errors: their bases, their fields, by position and by name."""

import unittest

from equalunlike import errors

LISTED = {
    "BadElement": (ValueError, ["value"]),
    "BadKey": (KeyError, ["value"]),
    "BadRow": (ValueError, ["place"]),
    "BadName": (LookupError, ["place", "name"]),
    "BadKinds": (TypeError, ["place"]),
    "TooMany": (OverflowError, ["most"]),
    "BadInputs": (ValueError, []),
    "BadOutput": (LookupError, ["name"]),
    "BadContents": (TypeError, ["name"]),
    "BadPattern": (IndexError, ["value"]),
    "BadCounts": (ValueError, []),
    "BadQuestion": (ValueError, []),
    "Unlike": (TypeError, []),
    "BadTable": (ValueError, []),
    "BadDeed": (ValueError, []),
    "NoName": (KeyError, ["name"]),
    "WrongKind": (TypeError, ["name"]),
    "NothingToUndo": (IndexError, []),
    "NotAssigned": (LookupError, ["deed"]),
    "BadText": (ValueError, ["row"]),
    "NoRow": (ValueError, []),
}


class TestErrors(unittest.TestCase):
    def test_each_is_a_direct_subclass_of_its_base_alone(self):
        for name, (base, _) in LISTED.items():
            with self.subTest(name):
                self.assertEqual(getattr(errors, name).__bases__, (base,))

    def test_none_is_a_subclass_of_another(self):
        for one in LISTED:
            for other in LISTED:
                if one != other:
                    with self.subTest(one=one, other=other):
                        self.assertFalse(issubclass(getattr(errors, one), getattr(errors, other)))

    def test_there_are_no_other_errors(self):
        found = {name for name, thing in vars(errors).items() if isinstance(thing, type)}
        self.assertEqual(found, set(LISTED))

    def test_fields_by_position(self):
        for name, (_, fields) in LISTED.items():
            with self.subTest(name):
                values = [[field] for field in fields]
                error = getattr(errors, name)(*values)
                for field, value in zip(fields, values):
                    self.assertIs(getattr(error, field), value)

    def test_fields_by_name(self):
        for name, (_, fields) in LISTED.items():
            with self.subTest(name):
                values = {field: (field, 7) for field in reversed(fields)}
                error = getattr(errors, name)(**values)
                for field, value in values.items():
                    self.assertIs(getattr(error, field), value)

    def test_fields_are_only_the_listed_ones(self):
        for name, (_, fields) in LISTED.items():
            with self.subTest(name):
                error = getattr(errors, name)(*range(len(fields)))
                self.assertEqual(list(vars(error)), fields)
                self.assertEqual(list(vars(error).values()), list(range(len(fields))))

    def test_missing_arguments_are_not_made_up(self):
        for name, (_, fields) in LISTED.items():
            if fields:
                with self.subTest(name):
                    self.assertRaises(TypeError, getattr(errors, name))

    def test_each_can_be_raised_and_caught_as_its_base(self):
        for name, (base, fields) in LISTED.items():
            with self.subTest(name), self.assertRaises(base):
                raise getattr(errors, name)(*fields)


if __name__ == "__main__":
    unittest.main()
