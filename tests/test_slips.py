import unittest

from fewfind.finding import finds
from fewfind.points import best
from fewfind.slips import best_with_slips, finds_with_slips, least_slips
from plain import (
    LONG_NAMES, NAME_LISTS, SHORT_NAMES, SHORT_QUERIES, plain_found_with_slips, plain_with_slips, words,
)
from steps import check_new_each_time

LONG_QUERIES = ["", "q", "sqrc", "fwefind", "HTtp2", "qqqq", "readmee", "abcdefgh", "mispis", "9zZ9", "AB12ab", "xsx"]
FOUR_SIGNS = ["aabb", "abab", "bA0a", "AAAA", "q0ab", "aAaA", "bbbb"]


class LeastSlips(unittest.TestCase):
    def test_queries_that_fit(self):
        for query in ("", "f", "few", "ffind", "fewfind"):
            self.assertEqual(least_slips(query, "few_find"), 0, query)

    def test_queries_that_fit_in_part(self):
        self.assertEqual(least_slips("fewx", "few_find"), 1)
        self.assertEqual(least_slips("xfew", "few_find"), 1)
        self.assertEqual(least_slips("fxew", "few_find"), 1)
        self.assertEqual(least_slips("fxewx", "few_find"), 2)
        self.assertEqual(least_slips("findfew", "few_find"), 3)
        self.assertEqual(least_slips("ba", "ab"), 1)
        self.assertEqual(least_slips("aaaaaaaa", "aaa"), 5)

    def test_queries_of_which_no_sign_meets(self):
        self.assertEqual(least_slips("x", "few_find"), 1)
        self.assertEqual(least_slips("xyz", "few_find"), 3)
        self.assertEqual(least_slips("FEW", "few_find"), 3)
        self.assertEqual(least_slips("abcdefgh", "_"), 8)

    def test_the_rest_keeps_its_order(self):
        self.assertEqual(least_slips("abc", "cba"), 2)
        self.assertEqual(least_slips("abcab", "cab"), 2)

    def test_small_and_great_letters(self):
        self.assertEqual(least_slips("ab", "AB"), 0)
        self.assertEqual(least_slips("AB", "aB"), 1)

    def test_against_a_plain_one(self):
        for name in SHORT_NAMES:
            for query in SHORT_QUERIES:
                self.assertEqual(least_slips(query, name), min_slips(query, name), (query, name))
        for name in LONG_NAMES:
            for query in LONG_QUERIES:
                self.assertEqual(least_slips(query, name), min_slips(query, name), (query, name))


def min_slips(query, name):
    return min(slips for total, slips, rest, laying in plain_with_slips(query, name, 99))


class BestWithSlips(unittest.TestCase):
    def test_without_slips_it_is_the_best(self):
        self.assertEqual(best_with_slips("ff", "few_find", 0), (33, "ff", [0, 4]))
        self.assertEqual(best_with_slips("", "few_find", 0), (0, "", []))
        self.assertIsNone(best_with_slips("fx", "few_find", 0))
        self.assertIsNone(best_with_slips("x", "few_find", 0))

    def test_each_slip_counts_fifteen_less(self):
        self.assertEqual(best_with_slips("abx", "ab", 1), (37 - 15, "ab", [0, 1]))
        self.assertEqual(best_with_slips("xabx", "ab", 2), (37 - 30, "ab", [0, 1]))
        self.assertEqual(best_with_slips("xaxbx", "ab", 3), (37 - 45, "ab", [0, 1]))
        self.assertEqual(best_with_slips("xaxbxxxx", "ab", 8), (37 - 90, "ab", [0, 1]))

    def test_at_most_so_many_slips(self):
        self.assertIsNone(best_with_slips("xabx", "ab", 0))
        self.assertIsNone(best_with_slips("xabx", "ab", 1))
        for many in (2, 3, 4, 5, 99, 10**18):
            self.assertEqual(best_with_slips("xabx", "ab", many), (7, "ab", [0, 1]), many)

    def test_fewer_than_no_slips(self):
        self.assertIsNone(best_with_slips("ab", "ab", -1))
        self.assertIsNone(best_with_slips("", "ab", -5))

    def test_the_rest_without_signs(self):
        self.assertIsNone(best_with_slips("xy", "ab", 1))
        for many in (2, 3, 99):
            self.assertEqual(best_with_slips("xy", "ab", many), (-30, "", []), many)
        self.assertEqual(best_with_slips("x", "_", 1), (-15, "", []))
        self.assertEqual(best_with_slips("", "_", 5), (0, "", []))

    def test_a_rest_of_more_slips_that_counts_more(self):
        # The whole query lies far apart behind the beginning, and the rest lies at it.
        query, name = "xab", "abQQQQQXQQQQQQAQQQQQQB"
        self.assertEqual(best(query, name), (7 + 5 + 5, [7, 14, 21]))
        self.assertEqual(best_with_slips(query, name, 0), (17, "xab", [7, 14, 21]))
        for many in (1, 2, 3, 99):
            self.assertEqual(best_with_slips(query, name, many), (37 - 15, "ab", [0, 1]), many)

    def test_two_slips_that_count_more_than_one(self):
        query, name = "xyab", "abQQQXQQQQQQYQQQQQQBA"
        one = (7 + 5 + 5 - 15, "xya", [5, 12, 20])
        self.assertEqual(best_with_slips(query, name, 1), one)
        for many in (2, 3, 4, 99):
            self.assertEqual(best_with_slips(query, name, many), (37 - 30, "ab", [0, 1]), many)

    def test_of_like_points_that_of_fewer_slips(self):
        query, name = "xab", "abQQQQQxQQQQQQaQQQb"
        self.assertEqual(best(query, name), (8 + 6 + 8, [7, 14, 18]))
        self.assertEqual(best("ab", name), (22 + 15, [0, 1]))
        for many in (0, 1, 2, 99):
            self.assertEqual(best_with_slips(query, name, many), (22, "xab", [7, 14, 18]), many)

    def test_of_like_points_and_slips_the_least_rest(self):
        self.assertEqual(best_with_slips("ba", "xxx_a_b", 1), (14 - 15, "a", [4]))
        self.assertEqual(best_with_slips("cba", "xxx_a_b_c", 2), (14 - 30, "a", [4]))
        self.assertEqual(best_with_slips("zcb", "xxx_b_c", 2), (14 - 30, "b", [4]))
        # Of letters that are met by the same place, the great one is the same sign.
        self.assertEqual(best_with_slips("aA", "A", 1), (19 - 15, "A", [0]))

    def test_the_least_rest_is_not_that_of_the_least_laying(self):
        self.assertEqual(best_with_slips("ab", "xxx_b_a", 1), (14 - 15, "a", [6]))

    def test_the_least_of_the_best_layings(self):
        self.assertEqual(best("a", "xxx_a_a"), (14, [4]))
        self.assertEqual(best_with_slips("ax", "yyy_a_a", 1), (14 - 15, "a", [4]))

    def test_a_rest_made_in_several_ways(self):
        self.assertEqual(best_with_slips("aa", "a", 1), (19 - 15, "a", [0]))
        self.assertEqual(best_with_slips("aab", "ab", 1), (37 - 15, "ab", [0, 1]))
        self.assertEqual(best_with_slips("aaaa", "a", 9), (19 - 45, "a", [0]))
        self.assertIsNone(best_with_slips("aaaa", "a", 2))

    def test_none_is_left_out_that_counts(self):
        for many in range(4):
            self.assertEqual(best_with_slips("few", "few_find", many), (55, "few", [0, 1, 2]))

    def check(self, query, name, many):
        rows = plain_with_slips(query, name, many)
        expected = (rows[0][0], rows[0][2], rows[0][3]) if rows else None
        self.assertEqual(best_with_slips(query, name, many), expected, (query, name, many))

    def test_short_names_against_a_plain_one(self):
        for name in SHORT_NAMES[::3]:
            for query in SHORT_QUERIES[::3] + FOUR_SIGNS:
                for many in (0, 1, 2, 5):
                    self.check(query, name, many)

    def test_long_names_against_a_plain_one(self):
        for name in LONG_NAMES:
            for query in LONG_QUERIES:
                for many in range(len(query) + 2):
                    self.check(query, name, many)

    def test_rests_that_lie_far_apart_against_a_plain_one(self):
        for name in ("abQQQQQXQQQQQQAQQQQQQB", "abQQQQQxQQQQQQaQQQb", "a_b_xQQQQQQXQQQQQAQQQQB", "xxx_a_b_x_ba"):
            for query in words("abx", 4):
                for many in (0, 1, 2, 3):
                    self.check(query, name, many)


class FindsWithSlips(unittest.TestCase):
    NAMES = ["ab", "a", "b", "xab", "x", "ba", "ab", "abc"]

    def test_without_slips_it_is_finds(self):
        for query in ("", "a", "ab", "abx", "q"):
            self.assertEqual(finds_with_slips(self.NAMES, query, 0, 9), finds(self.NAMES, query, 9))

    def test_by_points_then_lengths_then_numbers(self):
        self.assertEqual(
            finds_with_slips(self.NAMES, "ab", 1, 9),
            [(37, 0), (37, 6), (37, 7), (28, 3), (4, 1), (4, 2), (4, 5)],
        )

    def test_points_below_none(self):
        self.assertEqual(
            finds_with_slips(self.NAMES, "ab", 2, 9),
            [(37, 0), (37, 6), (37, 7), (28, 3), (4, 1), (4, 2), (4, 5), (-30, 4)],
        )
        names = ["xxxb", "ab", "xb", "q", "z_"]
        self.assertEqual(finds_with_slips(names, "bz", 1, 9), [(4, 4), (-5, 1), (-5, 2), (-7, 0)])
        self.assertEqual(finds_with_slips(["abc", "_", "ab"], "qq", 2, 9), [(-30, 1), (-30, 2), (-30, 0)])

    def test_how_many(self):
        found = finds_with_slips(self.NAMES, "ab", 2, 99)
        for many in range(10):
            self.assertEqual(finds_with_slips(self.NAMES, "ab", 2, many), found[:many], many)
        self.assertEqual(finds_with_slips(self.NAMES, "ab", 2, -1), [])

    def test_slips_and_many_are_not_taken_for_one_another(self):
        self.assertEqual(finds_with_slips(["x", "ab"], "abq", 1, 3), [(22, 1)])
        self.assertEqual(finds_with_slips(["x", "ab"], "abq", 3, 1), [(22, 1)])
        self.assertEqual(finds_with_slips(["x", "ab"], "abq", 3, 2), [(22, 1), (-45, 0)])

    def test_nothing_found(self):
        self.assertEqual(finds_with_slips([], "a", 3, 9), [])
        self.assertEqual(finds_with_slips(["a", "b"], "qq", 1, 9), [])

    def test_against_a_plain_one(self):
        for names in NAME_LISTS:
            for query in ["", "a", "ab", "bA", "ff", "Fq", "0", "abab", "q0ab"] + LONG_QUERIES:
                for slips in (0, 1, 2, 9):
                    found = plain_found_with_slips(names, query, slips)
                    for many in (0, 1, len(found), 99):
                        told = finds_with_slips(names, query, slips, many)
                        self.assertEqual(told, found[:many], (names, query, slips, many))


class NewEachTime(unittest.TestCase):
    def test_told_lists_may_be_changed(self):
        names = ["ab", "a", "xab"]
        for tell in (
            lambda: best_with_slips("abx", "ab", 1)[2],
            lambda: best_with_slips("x", "ab", 1)[2],
            lambda: finds_with_slips(names, "ab", 1, 9),
            lambda: finds_with_slips(names, "", 0, 1),
        ):
            check_new_each_time(self, tell)
        self.assertEqual(names, ["ab", "a", "xab"])

    def test_kinds(self):
        self.assertIs(type(least_slips("a", "a")), int)
        self.assertIs(type(best_with_slips("a", "a", 0)), tuple)
        self.assertIs(type(best_with_slips("a", "a", 0)[2]), list)
        self.assertIs(type(finds_with_slips(["a"], "a", 0, 1)[0]), tuple)


if __name__ == "__main__":
    unittest.main()
