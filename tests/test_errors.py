import unittest

from underwords import errors

MESSAGED = ["InvalidSystem", "InvalidWord", "InvalidMirror", "InvalidPoly", "InvalidElement", "InvalidRow", "InvalidLot",
            "InvalidOrder", "InvalidOperation"]
KEEPING = {"ParseError": ("spot", errors.WordError), "InvalidNumber": ("given", IndexError),
           "UnknownName": ("wanted", KeyError), "TooMany": ("most", OverflowError),
           "Refused": ("reason", ArithmeticError), "NothingToUndo": ("steps", LookupError)}


class ErrorsTest(unittest.TestCase):
    def test_what_they_derive_from(self):
        self.assertEqual(errors.WordError.__bases__, (ValueError,))
        for name in MESSAGED:
            self.assertEqual(getattr(errors, name).__bases__, (errors.WordError,), name)
        for name, (_, base) in KEEPING.items():
            self.assertEqual(getattr(errors, name).__bases__, (base,), name)

    def test_what_they_keep(self):
        for name, (attribute, _) in KEEPING.items():
            for value in (None, True, 0, 10 ** 99, "word", ("root",), [1], {"a": 1}, ValueError):
                self.assertIs(getattr(getattr(errors, name)(value), attribute), value)

    def test_they_are_caught_by_their_bases(self):
        for name in [*MESSAGED, "WordError"]:
            with self.assertRaises(ValueError):
                raise getattr(errors, name)("a message")
        for name, (_, base) in KEEPING.items():
            with self.assertRaises(base):
                raise getattr(errors, name)(1)

    def test_where_they_are_defined(self):
        for name in [*MESSAGED, *KEEPING, "WordError"]:
            self.assertEqual(getattr(errors, name).__module__, "underwords.errors")


if __name__ == "__main__":
    unittest.main()
