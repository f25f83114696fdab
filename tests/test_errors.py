import unittest

from sidelink.errors import Busy, NoDeed, NoHand, NoPage, NoRow, SideError

FIVE = (NoPage, NoHand, NoRow, NoDeed, Busy)


class Errors(unittest.TestCase):
    def test_side_error_is_taken_by_value_error(self):
        self.assertTrue(issubclass(SideError, ValueError))
        with self.assertRaises(ValueError):
            raise SideError("no")

    def test_each_is_taken_by_side_error_and_value_error(self):
        for kind in FIVE:
            for taker in (SideError, ValueError):
                with self.subTest(kind=kind, taker=taker):
                    with self.assertRaises(taker):
                        raise kind("no")

    def test_none_is_taken_by_another_of_the_five(self):
        for kind in FIVE:
            for other in FIVE:
                with self.subTest(kind=kind, other=other):
                    self.assertEqual(issubclass(kind, other), kind is other)

    def test_side_error_is_taken_by_none_of_the_five(self):
        for kind in FIVE:
            self.assertFalse(issubclass(SideError, kind))

    def test_names(self):
        names = [kind.__name__ for kind in FIVE]
        self.assertEqual(names, ["NoPage", "NoHand", "NoRow", "NoDeed", "Busy"])
        self.assertEqual(SideError.__name__, "SideError")

    def test_words_are_kept_and_may_lack(self):
        for kind in (SideError,) + FIVE:
            self.assertEqual(str(kind("words")), "words")
            self.assertEqual(str(kind()), "")


if __name__ == "__main__":
    unittest.main()
