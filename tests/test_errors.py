import unittest

from dealknot.errors import (
    HallError, NoAmount, NoBack, NoLeg, NoName, NoRow, NotForetold, NotNow, NotWaiting, TooLittle, Twice)

REFUSALS = [NoName, NoAmount, NoLeg, NotWaiting, Twice, TooLittle, NotNow, NotForetold, NoRow, NoBack]


class Errors(unittest.TestCase):
    def test_a_hall_error_is_a_value_error(self):
        self.assertEqual(HallError.__bases__, (ValueError,))

    def test_each_refusal_stands_under_hall_error(self):
        for refusal in REFUSALS:
            with self.subTest(refusal.__name__):
                self.assertTrue(issubclass(refusal, HallError))
                self.assertTrue(issubclass(refusal, ValueError))

    def test_none_stands_under_another(self):
        for one in REFUSALS:
            self.assertFalse(issubclass(HallError, one))
            for other in REFUSALS:
                if one is not other:
                    with self.subTest(one.__name__ + " and " + other.__name__):
                        self.assertFalse(issubclass(one, other))

    def test_each_has_its_own_name(self):
        self.assertEqual(
            [refusal.__name__ for refusal in REFUSALS],
            ["NoName", "NoAmount", "NoLeg", "NotWaiting", "Twice", "TooLittle",
             "NotNow", "NotForetold", "NoRow", "NoBack"])

    def test_each_can_be_raised_and_taken_as_any_refusal(self):
        for refusal in [HallError] + REFUSALS:
            with self.subTest(refusal.__name__):
                with self.assertRaises(HallError) as caught:
                    raise refusal("words")
                self.assertIs(caught.exception.__class__, refusal)


if __name__ == "__main__":
    unittest.main()
