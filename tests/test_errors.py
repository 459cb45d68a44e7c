"""surelywhole.errors: every class of the interface, its base and its one attribute."""

import unittest

from surelywhole import errors

ATTRIBUTES = {
    "UnknownTable": "name",
    "Ring": "name",
    "BadPart": "part",
    "Unbound": "variable",
    "Clash": "row",
    "NoPromise": "promise",
    "MayLack": "row",
    "NotWhole": "pair",
}


class ErrorClasses(unittest.TestCase):

    def test_the_base_stands_under_value_error(self):
        self.assertEqual(errors.WholeError.__bases__, (ValueError,))

    def test_each_other_one_stands_directly_under_the_base(self):
        for name in ATTRIBUTES:
            with self.subTest(name):
                self.assertEqual(getattr(errors, name).__bases__, (errors.WholeError,))
                self.assertEqual(getattr(errors, name).__module__, "surelywhole.errors")

    def test_each_has_one_attribute_named_as_its_argument(self):
        for name, attribute in ATTRIBUTES.items():
            for worth in ("pupil", ("pupil", "ann", "g1"), (), object()):
                with self.subTest(name, worth=worth):
                    self.assertEqual(vars(getattr(errors, name)(worth)), {attribute: worth})
                    self.assertEqual(vars(getattr(errors, name)(**{attribute: worth})), {attribute: worth})

    def test_each_can_be_raised_and_shown(self):
        for name, attribute in ATTRIBUTES.items():
            with self.subTest(name):
                with self.assertRaises(errors.WholeError) as caught:
                    raise getattr(errors, name)("pupil")
                self.assertEqual(getattr(caught.exception, attribute), "pupil")
                self.assertTrue(str(caught.exception))
