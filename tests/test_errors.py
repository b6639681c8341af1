"""The interface of throughlines/errors.py."""

import unittest

from throughlines import errors

PLAIN = (
    "NoNet", "NoWay", "NoWagon", "NoRules", "NotYet", "TooMany", "TooLate", "NoLine",
    "Stopped", "NoMonth", "NoBill", "NoText", "NoSaying",
)
WITH_WHERE = ("NoPaper", "NoProof")


class Errors(unittest.TestCase):
    def test_house_error_is_a_value_error(self):
        self.assertEqual(errors.HouseError.__bases__, (ValueError,))

    def test_each_refusal_is_straight_under_it(self):
        for name in PLAIN + WITH_WHERE:
            with self.subTest(name):
                self.assertEqual(getattr(errors, name).__bases__, (errors.HouseError,))

    def test_each_is_raised_and_caught_as_any_refusal(self):
        for name in PLAIN:
            with self.subTest(name), self.assertRaises(errors.HouseError):
                raise getattr(errors, name)("why")

    def test_where_is_kept_as_it_was_told(self):
        for name in WITH_WHERE:
            for where in (0, 7, "steps", "paper", "due"):
                with self.subTest(name, where=where):
                    made = getattr(errors, name)(where)
                    self.assertEqual(made.where, where)
                    self.assertIs(type(made.where), type(where))

    def test_each_object_has_its_own_where(self):
        for name in WITH_WHERE:
            with self.subTest(name):
                first, second = getattr(errors, name)(1), getattr(errors, name)(2)
                self.assertEqual((first.where, second.where), (1, 2))
                self.assertIn("where", vars(first))

    def test_the_others_have_no_where(self):
        for name in PLAIN:
            with self.subTest(name):
                self.assertFalse(hasattr(getattr(errors, name)("why"), "where"))


if __name__ == "__main__":
    unittest.main()
