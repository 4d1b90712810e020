import unittest

from fewfind.errors import NoLaying
from fewfind.points import best, points


class Points(unittest.TestCase):
    def test_at_the_beginning(self):
        self.assertEqual(points("a", "A", [0]), 18)
        self.assertEqual(points("a", "Ab", [0]), 18)

    def test_the_beginning_of_the_same_sign(self):
        self.assertEqual(points("a", "a", [0]), 19)
        self.assertEqual(points("A", "A", [0]), 19)
        self.assertEqual(points("5", "5a", [0]), 19)

    def test_right_behind_each_mark(self):
        for mark in "_-./":
            self.assertEqual(points("b", "a" + mark + "b", [2]), 10 + 6 + 1 - 2, mark)
            self.assertEqual(points("b", "a" + mark + "B", [2]), 10 + 6 - 2, mark)
            self.assertEqual(points("5", mark + "5", [1]), 10 + 6 + 1 - 1, mark)

    def test_not_right_behind_a_mark(self):
        self.assertEqual(points("c", "_bc", [2]), 10 + 1 - 2)
        self.assertEqual(points("c", "bc_", [1]), 10 + 1 - 1)

    def test_a_great_letter_right_behind(self):
        for ahead in "az09":
            self.assertEqual(points("b", ahead + "B", [1]), 10 + 5 - 1, ahead)
            self.assertEqual(points("B", ahead + "B", [1]), 10 + 5 + 1 - 1, ahead)
        for ahead in "AZ":
            self.assertEqual(points("b", ahead + "B", [1]), 10 - 1, ahead)
            self.assertEqual(points("B", ahead + "B", [1]), 10 + 1 - 1, ahead)

    def test_a_small_letter_or_figure_right_behind(self):
        for ahead in "aA0":
            for sign in "b5":
                self.assertEqual(points(sign, ahead + sign, [1]), 10 + 1 - 1, ahead + sign)

    def test_a_mark_and_a_great_letter_count_once(self):
        self.assertEqual(points("B", "a_B", [2]), 10 + 6 + 1 - 2)

    def test_places_ahead_of_the_first(self):
        for ahead, less in [(1, 1), (2, 2), (3, 3), (4, 3), (5, 3), (23, 3)]:
            self.assertEqual(points("b", "a" * ahead + "b", [ahead]), 11 - less, ahead)

    def test_right_behind_the_place_ahead(self):
        self.assertEqual(points("ab", "ab", [0, 1]), 19 + 11 + 7)
        self.assertEqual(points("abc", "abc", [0, 1, 2]), 19 + 11 + 7 + 11 + 7)
        self.assertEqual(points("ab", "aB", [0, 1]), 19 + 15 + 7)

    def test_places_between_two(self):
        for between, less in [(1, 1), (2, 2), (3, 3), (4, 4), (5, 5), (6, 5), (7, 5), (22, 5)]:
            self.assertEqual(points("ab", "a" + "x" * between + "b", [0, between + 1]), 19 + 11 - less, between)

    def test_only_the_first_counts_less_for_what_is_ahead_of_it(self):
        self.assertEqual(points("bc", "aaabc", [3, 4]), (11 - 3) + (11 + 7))
        self.assertEqual(points("bc", "aaabxxc", [3, 6]), (11 - 3) + (11 - 2))

    def test_together(self):
        self.assertEqual(points("fF2", "few_find/F-2", [0, 9, 11]), (10 + 8 + 1) + (10 + 6 + 1 - 5) + (10 + 6 + 1 - 1))
        self.assertEqual(points("hs2h", "HTTPServer2Http", [0, 4, 10, 11]), 18 + (10 - 3) + (11 - 5) + (15 + 7))
        self.assertEqual(points("ff", "aFewFind", [1, 4]), (15 - 1) + (15 - 2))

    def test_no_laying(self):
        for query, name, thing in [
            ("a", "b", [0]), ("A", "a", [0]), ("a", "a", []), ("a", "aa", [0, 1]), ("aa", "aa", [1, 0]),
            ("aa", "aa", [0, 0]), ("a", "a", [1]), ("a", "a", [-1]), ("a", "a", [False]), ("a", "aa", [True]),
            ("a", "a", (0,)), ("a", "a", 0), ("a", "a", None), ("a", "a", "0"), ("a", "a", [[0]]), ("", "a", [0]),
            ("", "a", ()), ("", "a", None), ("", "a", ""),
        ]:
            with self.assertRaises(NoLaying, msg=(query, name, thing)):
                points(query, name, thing)

    def test_the_query_without_signs(self):
        for name in ("a", "_", "Few-find"):
            self.assertEqual(points("", name, []), 0)


class Best(unittest.TestCase):
    def test_the_most(self):
        self.assertEqual(best("a", "a"), (19, [0]))
        self.assertEqual(best("b", "ab_b"), (14, [3]))
        self.assertEqual(best("ab", "aab"), (19 + 10, [0, 2]))
        self.assertEqual(best("ff", "few_find"), (19 + 14, [0, 4]))
        self.assertEqual(best("rm", "src/read_me"), (14 + 13, [4, 9]))

    def test_the_most_is_not_always_the_first_nor_the_last_laying(self):
        self.assertEqual(best("ab", "ax_abxb"), (14 + 18, [3, 4]))

    def test_the_least_of_several(self):
        self.assertEqual(best("a", "xxxaaa"), (8, [3]))
        self.assertEqual(best("aa", "xxxaaaa"), (8 + 18, [3, 4]))
        self.assertEqual(best("ab", "xxx_ab_ab"), (14 + 18, [4, 5]))
        self.assertEqual(best("ab", "axxxxxb_xxxxxxxxb-b"), (19 + 17 - 5, [0, 18]))
        self.assertEqual(best("ab", "axxxxxx_bxxxxxxxx-b"), (19 + 17 - 5, [0, 8]))

    def test_none_where_the_query_does_not_fit(self):
        for query, name in [("a", "b"), ("A", "a"), ("ab", "ba"), ("aa", "a"), ("aaaaaaaa", "aaaaaaa"), ("a", "_")]:
            self.assertIsNone(best(query, name), (query, name))

    def test_the_query_without_signs(self):
        for name in ("a", "_", "A", "a" * 24):
            self.assertEqual(best("", name), (0, []))

    def test_longest(self):
        self.assertEqual(best("aaaaaaaa", "a" * 24), (19 + 7 * 18, list(range(8))))

    def test_lengths_beyond_the_bounds_are_not_refused(self):
        self.assertEqual(best("a" * 10, "a" * 30), (19 + 9 * 18, list(range(10))))
        self.assertEqual(best("", ""), (0, []))
        self.assertIsNone(best("a", ""))


if __name__ == "__main__":
    unittest.main()
