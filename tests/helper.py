"""What the tests share."""

import unittest

from roomward.errors import WardError


class RefusalCase(unittest.TestCase):
    """A test case that can ask for a refusal of just one class."""

    def refused(self, kind, call, *parts):
        """Ask that a call is refused with this class, and no other one; tell the error."""
        with self.assertRaises(ValueError) as caught:
            call(*parts)
        self.assertIs(type(caught.exception), kind)
        self.assertIsInstance(caught.exception, WardError)
        return caught.exception


# Things of other kinds, some of which can't be a dict's key.
ODD_THINGS = (None, 0, 1, 7, -3, True, False, [], ["a"], (), ("a",), {}, {"a": 1}, 1.5, b"a", object(), str, 10 ** 5000)

# Texts that are no names.
ODD_TEXTS = ("", " ", "1", "1a", "9abc", "A", "aB", "Ab", "ABC", "a b", " a", "a ", "a_b", "_a", "a-b", "a.b", "a\n",
             "\na", "a\t", "a~", "`", "{", "@", "[", "/", ":", "a/", "a:", "a`", "a{", "abcdefghi", "a12345678",
             "abcdefghijklmnop")
