"""Point 2: what a whole number is; point 7: what a name is."""

import unittest

from throughlines.kinds import is_name, is_tuple, is_whole, is_whole_between


class Kinds(unittest.TestCase):
    def test_whole_numbers(self):
        for thing in (0, 1, -1, 10 ** 60, -(10 ** 60)):
            with self.subTest(thing):
                self.assertIs(is_whole(thing), True)

    def test_no_whole_numbers(self):
        for thing in (True, False, None, "1", "", [1], (1,), [], ()):
            with self.subTest(repr(thing)):
                self.assertIs(is_whole(thing), False)

    def test_bounds(self):
        told = [is_whole_between(thing, 1, 3) for thing in (0, 1, 2, 3, 4, True, None, "2")]
        self.assertEqual(told, [False, True, True, True, False, False, False, False])

    def test_names(self):
        for thing in ("a", "z", "az", "abcdefgh", "zzzzzzzz"):
            with self.subTest(thing):
                self.assertIs(is_name(thing), True)

    def test_no_names(self):
        for thing in (
            "", "abcdefghi", "A", "aB", "a1", "a ", " a", "a-b", "a_b", "`", "{", "\u00e4", "a\n",
            None, 1, True, ["a"], ("a",), [],
        ):
            with self.subTest(repr(thing)):
                self.assertIs(is_name(thing), False)

    def test_tuples(self):
        told = [is_tuple(thing, 1, 2) for thing in ((), (1,), (1, 2), (1, 2, 3), [1], "a", None)]
        self.assertEqual(told, [False, True, True, False, False, False, False])


if __name__ == "__main__":
    unittest.main()
