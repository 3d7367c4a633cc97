import unittest

from wellpanes import errors

STRAIGHT_UNDER = {
    "NoName": LookupError,
    "NoDeed": LookupError,
    "NoPane": LookupError,
    "NoMix": LookupError,
    "BadRow": ValueError,
    "Even": RuntimeError,
}


class Errors(unittest.TestCase):
    def test_each_is_straight_under_its_class(self):
        for name, above in STRAIGHT_UNDER.items():
            with self.subTest(name):
                self.assertEqual(getattr(errors, name).__bases__, (above,))

    def test_none_is_under_another(self):
        for name in STRAIGHT_UNDER:
            for other in STRAIGHT_UNDER:
                under = issubclass(getattr(errors, name), getattr(errors, other))
                self.assertEqual(under, name == other, (name, other))

    def test_each_is_defined_here(self):
        for name in STRAIGHT_UNDER:
            self.assertEqual(getattr(errors, name).__module__, "wellpanes.errors")

    def test_each_has_the_one_field_what(self):
        for name in STRAIGHT_UNDER:
            for what in ("red", 7, (0, 2), ("red", "blue"), None):
                with self.subTest(name, what=what):
                    refusal = getattr(errors, name)(what)
                    self.assertEqual(vars(refusal), {"what": what})
                    self.assertEqual(vars(getattr(errors, name)(what=what)), {"what": what})

    def test_each_is_made_with_its_what_and_no_more(self):
        for name in STRAIGHT_UNDER:
            with self.subTest(name):
                self.assertRaises(TypeError, getattr(errors, name))
                self.assertRaises(TypeError, getattr(errors, name), 1, 2)

    def test_each_can_be_raised_and_caught_by_its_name(self):
        for name in STRAIGHT_UNDER:
            with self.subTest(name):
                with self.assertRaises(getattr(errors, name)) as caught:
                    raise getattr(errors, name)("red")
                self.assertEqual(caught.exception.what, "red")


if __name__ == "__main__":
    unittest.main()
