"""The refusals: what stands under what, and the two fields."""

import unittest

from passkeep import errors

OF_ONE_TEXT = (
    "NoRights", "NoName", "NoValue", "NoWords", "NoKind", "NoTask", "NoHandle", "NoThing", "NoRow",
    "Taken", "TooMany", "TooGreat", "Empty", "Full",
)


def unwritable():
    class Unwritable:
        def __repr__(self):
            raise RuntimeError("not to be written out")

        __str__ = __repr__

    return Unwritable()


class ErrorsTest(unittest.TestCase):
    def test_pass_error_stands_right_under_value_error(self):
        self.assertEqual(errors.PassError.__bases__, (ValueError,))

    def test_each_class_stands_right_under_pass_error(self):
        for name in OF_ONE_TEXT + ("NoDeed", "Lacks"):
            self.assertEqual(getattr(errors, name).__bases__, (errors.PassError,), name)

    def test_there_is_no_other_class(self):
        found = [name for name, one in vars(errors).items() if isinstance(one, type)]
        self.assertEqual(sorted(found), sorted(OF_ONE_TEXT + ("PassError", "NoDeed", "Lacks")))

    def test_the_others_are_made_of_one_text(self):
        for name in OF_ONE_TEXT + ("PassError",):
            self.assertEqual(str(getattr(errors, name)("so it is")), "so it is")

    def test_no_deed_keeps_what_was_asked(self):
        for deed in ("fly", "", None, True, 7, [], {}, unwritable(), 10 ** 5000):
            made = errors.NoDeed(deed)
            self.assertIs(made.deed, deed)
            self.assertIsInstance(str(made), str)

    def test_lacks_keeps_what_is_missing(self):
        for rights in range(64):
            self.assertEqual(errors.Lacks(rights).missing, rights)


if __name__ == "__main__":
    unittest.main()
