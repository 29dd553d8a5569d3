"""Point 2 and errors.py: each error, what it derives from, and the value that it keeps."""

import unittest

from leadsever import errors

ATTRIBUTES = {
    "BadRule": "value",
    "BadTable": "value",
    "BadDay": "value",
    "BadPlace": "value",
    "BadName": "value",
    "UnknownName": "name",
    "TakenName": "name",
    "TakenPlace": "place",
    "NotStanding": "name",
    "Standing": "name",
    "BadText": "value",
    "BadCommand": "command",
    "NotSafe": "way",
}


def deep_list(depth):
    value = []
    for _ in range(depth):
        value = [value]
    return value


def kept_values():
    return ["a", "", 0, -1, True, None, (), ("a",), [], {}, {"a": [1]}, 10 ** 59, deep_list(100)]


class Errors(unittest.TestCase):
    def test_lead_error_is_a_value_error(self):
        self.assertTrue(issubclass(errors.LeadError, ValueError))

    def test_the_others_derive_from_it_directly(self):
        for name in ATTRIBUTES:
            self.assertEqual(getattr(errors, name).__bases__, (errors.LeadError,), name)

    def test_there_are_no_other_errors(self):
        found = [name for name in vars(errors) if not name.startswith("__")]
        self.assertEqual(sorted(found), sorted(["LeadError", *ATTRIBUTES]))

    def test_each_is_defined_in_this_file(self):
        for name in ["LeadError", *ATTRIBUTES]:
            self.assertEqual(getattr(errors, name).__module__, "leadsever.errors", name)

    def test_the_very_value_is_kept(self):
        for name, attribute in ATTRIBUTES.items():
            for value in kept_values():
                error = getattr(errors, name)(value)
                self.assertIs(getattr(error, attribute), value, name)

    def test_the_very_value_is_kept_when_passed_by_name(self):
        for name, attribute in ATTRIBUTES.items():
            for value in kept_values():
                error = getattr(errors, name)(**{attribute: value})
                self.assertIs(getattr(error, attribute), value, name)

    def test_there_is_one_attribute(self):
        for name, attribute in ATTRIBUTES.items():
            self.assertEqual(vars(getattr(errors, name)(1)), {attribute: 1}, name)

    def test_each_takes_exactly_one_argument(self):
        for name in ATTRIBUTES:
            with self.assertRaises(TypeError):
                getattr(errors, name)()
            with self.assertRaises(TypeError):
                getattr(errors, name)(1, 2)

    def test_each_is_caught_as_lead_error(self):
        for name, attribute in ATTRIBUTES.items():
            value = [name]
            with self.assertRaises(errors.LeadError) as caught:
                raise getattr(errors, name)(value)
            self.assertIs(getattr(caught.exception, attribute), value)


if __name__ == "__main__":
    unittest.main()
