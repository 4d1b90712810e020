import unittest

from fewfind.errors import NoNumber
from fewfind.finding import finds, rank_of, ties

# With the query a: 19 points each of 1 and 4, 18 of 3, 15 of 0 (a mark ahead), 9 of 2.
NAMES = ["x_a", "a", "xxa", "Ab", "ab", "x"]


class Finds(unittest.TestCase):
    def test_more_points_first(self):
        self.assertEqual(finds(["ba", "a", "A"], "a", 3), [(19, 1), (18, 2), (10, 0)])
        self.assertEqual(finds(["axb", "a_b", "ab", "aB"], "ab", 4), [(41, 3), (37, 2), (35, 1), (29, 0)])

    def test_points_ahead_of_lengths(self):
        self.assertEqual(finds(["A", "abcdefgh"], "a", 2), [(19, 1), (18, 0)])

    def test_then_shorter_names(self):
        self.assertEqual(finds(["abcd", "abc", "ab", "a"], "a", 4), [(19, 3), (19, 2), (19, 1), (19, 0)])

    def test_lengths_ahead_of_numbers(self):
        self.assertEqual(finds(["aaa", "ab", "aa"], "a", 3), [(19, 1), (19, 2), (19, 0)])

    def test_then_lesser_numbers(self):
        self.assertEqual(finds(["ax", "ac", "ab"], "a", 3), [(19, 0), (19, 1), (19, 2)])

    def test_numbers_are_no_texts(self):
        names = ["ab"] * 12
        self.assertEqual(finds(names, "a", 12), [(19, number) for number in range(12)])

    def test_names_that_are_alike(self):
        self.assertEqual(finds(["a", "b", "a", "a"], "a", 9), [(19, 0), (19, 2), (19, 3)])

    def test_all_together(self):
        self.assertEqual(finds(NAMES, "a", 9), [(19, 1), (19, 4), (18, 3), (15, 0), (9, 2)])

    def test_no_names(self):
        for many in (0, 1, 5):
            self.assertEqual(finds([], "a", many), [])
            self.assertEqual(finds([], "", many), [])

    def test_a_query_that_fits_none(self):
        self.assertEqual(finds(NAMES, "q", 9), [])
        self.assertEqual(finds(NAMES, "X", 9), [])
        self.assertEqual(finds(["a"], "aa", 9), [])

    def test_the_query_without_signs_finds_all(self):
        self.assertEqual(finds(NAMES, "", 9), [(0, 1), (0, 5), (0, 3), (0, 4), (0, 0), (0, 2)])

    def test_how_many(self):
        told = [(19, 1), (19, 4), (18, 3), (15, 0), (9, 2)]
        for many in range(10):
            self.assertEqual(finds(NAMES, "a", many), told[:many], many)

    def test_less_than_none_is_none(self):
        self.assertEqual(finds(NAMES, "a", -1), [])


class RankOf(unittest.TestCase):
    def test_names_that_are_found(self):
        self.assertEqual([rank_of(NAMES, "a", number) for number in range(5)], [3, 0, 4, 2, 1])

    def test_a_name_that_is_not_found(self):
        self.assertIsNone(rank_of(NAMES, "a", 5))
        self.assertIsNone(rank_of(["a"], "A", 0))

    def test_names_that_are_alike(self):
        names = ["b", "a", "a", "b", "a"]
        self.assertEqual([rank_of(names, "a", number) for number in range(5)], [None, 0, 1, None, 2])

    def test_the_query_without_signs(self):
        self.assertEqual([rank_of(NAMES, "", number) for number in range(6)], [4, 0, 5, 2, 3, 1])

    def test_no_such_number(self):
        for number in (-1, -2, -6, 6, 7, 100):
            for query in ("a", "", "q"):
                with self.assertRaises(NoNumber, msg=(query, number)):
                    rank_of(NAMES, query, number)

    def test_no_number_where_there_are_no_names(self):
        for number in (-1, 0, 1):
            with self.assertRaises(NoNumber):
                rank_of([], "", number)


class Ties(unittest.TestCase):
    def test_one_and_several_names(self):
        self.assertEqual(ties(NAMES, "a"), [(19, [1, 4]), (18, [3]), (15, [0]), (9, [2])])

    def test_points_fall_whatever_the_order_of_names(self):
        self.assertEqual(ties(["ba", "A", "a"], "a"), [(19, [2]), (18, [1]), (10, [0])])
        self.assertEqual(ties(["a", "ba", "A"], "a"), [(19, [0]), (18, [2]), (10, [1])])

    def test_numbers_rise_whatever_the_lengths(self):
        self.assertEqual(ties(["abcd", "abc", "b", "ab", "a"], "a"), [(19, [0, 1, 3, 4])])

    def test_numbers_are_no_texts(self):
        self.assertEqual(ties(["ab"] * 12, "a"), [(19, list(range(12)))])

    def test_names_that_are_alike(self):
        self.assertEqual(ties(["a", "A", "a"], "a"), [(19, [0, 2]), (18, [1])])

    def test_the_query_without_signs(self):
        self.assertEqual(ties(NAMES, ""), [(0, [0, 1, 2, 3, 4, 5])])

    def test_nothing_found(self):
        self.assertEqual(ties([], ""), [])
        self.assertEqual(ties([], "a"), [])
        self.assertEqual(ties(NAMES, "q"), [])


if __name__ == "__main__":
    unittest.main()
