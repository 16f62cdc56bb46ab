"""A test case that looks at what an error keeps."""

import unittest

from anydraws.errors import DrawError


class RaisingCase(unittest.TestCase):
    def raised(self, kind, function, arguments, more):
        with self.assertRaises(DrawError) as caught:
            function(*arguments, **more)
        self.assertIs(type(caught.exception), kind)
        return caught.exception

    def raises_given(self, kind, given, function, *arguments, **more):
        self.assertIs(self.raised(kind, function, arguments, more).given, given)

    def raises_index(self, kind, index, function, *arguments, **more):
        told = self.raised(kind, function, arguments, more).index
        self.assertEqual(told, index, arguments)
        self.assertIs(type(told), type(index))
