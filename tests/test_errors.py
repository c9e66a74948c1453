"""Tests of sumorder.errors: the refusals and how they stand to one another."""

import unittest

from sumorder import errors
from sumorder.errors import NoText, SumError

OF_A_TEXT = (
    "NoFilling", "NoName", "TooMany", "NoDeeds", "NoOffers", "NoTree", "NoBag", "NoPart",
    "NoWorths", "NoBack", "NoWeights", "NoNumber", "NoRow",
)
ALL = OF_A_TEXT + ("NoText",)


class Family(unittest.TestCase):
    def test_sum_error_is_right_under_value_error(self):
        self.assertEqual(SumError.__bases__, (ValueError,))

    def test_each_is_right_under_sum_error(self):
        for name in ALL:
            with self.subTest(name):
                self.assertEqual(getattr(errors, name).__bases__, (SumError,))

    def test_none_is_one_of_the_others(self):
        for name in ALL:
            for other in ALL:
                with self.subTest(name, other=other):
                    one, another = getattr(errors, name), getattr(errors, other)
                    self.assertEqual(issubclass(one, another), name == other)

    def test_each_has_its_name(self):
        for name in ALL + ("SumError",):
            with self.subTest(name):
                self.assertEqual(getattr(errors, name).__name__, name)


class Made(unittest.TestCase):
    def test_each_is_made_of_a_text_and_caught_by_its_name(self):
        for name in OF_A_TEXT:
            refusal = getattr(errors, name)
            for caught in (refusal, SumError, ValueError):
                with self.subTest(name, caught=caught), self.assertRaises(caught) as told:
                    raise refusal("why")
                self.assertEqual(type(told.exception), refusal)

    def test_any_refusal_is_made_of_a_text(self):
        with self.assertRaises(ValueError):
            raise SumError("why")

    def test_no_text_keeps_what_it_was_made_of(self):
        for at in (0, 1, 2, 17, 6000):
            for caught in (NoText, SumError, ValueError):
                with self.subTest(at, caught=caught), self.assertRaises(caught) as told:
                    raise NoText(at)
                self.assertEqual(told.exception.at, at)
                self.assertEqual(type(told.exception.at), int)

    def test_each_no_text_has_its_own_field(self):
        first, second = NoText(3), NoText(4)
        self.assertEqual((first.at, second.at), (3, 4))


if __name__ == "__main__":
    unittest.main()
