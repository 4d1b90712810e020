import unittest

from fewfind.errors import FindError, NoFit, NoLaying, NoLetter, NoNumber, NoText

REFUSALS = [NoFit, NoLaying, NoLetter, NoNumber, NoText]


class Errors(unittest.TestCase):
    def test_all_stand_under_find_error(self):
        self.assertTrue(issubclass(FindError, ValueError))
        for refusal in REFUSALS:
            self.assertTrue(issubclass(refusal, FindError), refusal)
            self.assertNotEqual(refusal, FindError)

    def test_none_stands_below_another(self):
        for one in REFUSALS:
            for other in REFUSALS:
                self.assertEqual(issubclass(one, other), one == other, (one, other))

    def test_each_can_be_raised_and_taken(self):
        for refusal in REFUSALS:
            with self.assertRaises(FindError):
                raise refusal("why")


if __name__ == "__main__":
    unittest.main()
