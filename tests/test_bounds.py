import unittest

from fewfind.bounds import bound, found_by_bound
from fewfind.finding import finds
from fewfind.points import best, points
from plain import (
    LONG_NAMES, LONG_QUERIES, NAME_LISTS, SHORT_NAMES, SHORT_QUERIES, all_layings, plain_bound, plain_found_by_bound,
)


class Bound(unittest.TestCase):
    def test_the_query_without_signs(self):
        for name in ("a", "_", "few_find", "a" * 24):
            self.assertEqual(bound("", name), 0)

    def test_one_sign(self):
        self.assertEqual(bound("a", "a"), 19)
        self.assertEqual(bound("a", "A"), 18)
        self.assertEqual(bound("a", "_a"), 17)
        self.assertEqual(bound("a", "bA"), 15)
        self.assertEqual(bound("A", "bA"), 16)
        self.assertEqual(bound("a", "BA"), 10)
        self.assertEqual(bound("a", "ba"), 11)

    def test_places_ahead_count_nothing(self):
        self.assertEqual(bound("a", "xxxxxa"), 11)
        self.assertEqual(bound("ab", "axxxxxxb"), 19 + 11 + 7)

    def test_each_sign_but_the_first_counts_seven(self):
        self.assertEqual(bound("ab", "ab"), 19 + 11 + 7)
        self.assertEqual(bound("abc", "abc"), 19 + 11 + 11 + 14)
        self.assertEqual(bound("aaaaaaaa", "a" * 24), 8 * 19 + 7 * 7)

    def test_the_most_of_several_places(self):
        self.assertEqual(bound("b", "ab_b"), 17)
        self.assertEqual(bound("b", "bb_b"), 19)
        self.assertEqual(bound("b", "ab_B"), 16)
        self.assertEqual(bound("b", "xbxBb"), 15)
        self.assertEqual(bound("B", "Bb_B"), 19)
        self.assertEqual(bound("bb", "xb_b"), 17 + 17 + 7)
        self.assertEqual(bound("ab", "xa_bA-a"), 17 + 17 + 7)

    def test_signs_in_any_order(self):
        self.assertEqual(bound("ba", "ab"), 11 + 19 + 7)
        self.assertEqual(bound("aa", "a"), 19 + 19 + 7)

    def test_none_where_a_sign_meets_no_place(self):
        for query, name in [("a", "b"), ("A", "a"), ("ab", "a"), ("ba", "a"), ("abc", "ac"), ("a", "_"), ("9", "8")]:
            self.assertIsNone(bound(query, name), (query, name))

    def test_against_a_plain_one(self):
        for name in SHORT_NAMES + LONG_NAMES:
            for query in SHORT_QUERIES + (LONG_QUERIES if name in LONG_NAMES else []):
                self.assertEqual(bound(query, name), plain_bound(query, name), (query, name))

    def test_no_less_than_what_a_laying_counts(self):
        for name in SHORT_NAMES:
            for query in SHORT_QUERIES:
                for laying in all_layings(query, name):
                    self.assertGreaterEqual(bound(query, name), points(query, name, laying), (query, name, laying))
        for name in LONG_NAMES:
            for query in LONG_QUERIES:
                told = best(query, name)
                if told is not None:
                    self.assertGreaterEqual(bound(query, name), told[0], (query, name))


class FoundByBound(unittest.TestCase):
    def test_none_is_laid_where_many_is_none(self):
        for names in NAME_LISTS:
            for query in ("", "a", "ab", "f"):
                self.assertEqual(found_by_bound(names, query, 0), ([], 0))

    def test_no_names(self):
        for many in (0, 1, 5):
            self.assertEqual(found_by_bound([], "a", many), ([], 0))
            self.assertEqual(found_by_bound([], "", many), ([], 0))

    def test_names_without_a_bound_are_not_laid(self):
        self.assertEqual(found_by_bound(["b", "a", "_", "A"], "a", 9), ([(19, 1), (18, 3)], 2))
        self.assertEqual(found_by_bound(["b", "c"], "a", 1), ([], 0))

    def test_a_name_with_a_bound_that_does_not_fit_is_laid(self):
        self.assertEqual(found_by_bound(["ba"], "ab", 1), ([], 1))
        self.assertEqual(found_by_bound(["ba", "ab"], "ab", 5), ([(37, 1)], 2))

    def test_laying_stops_where_the_last_found_counts_more_than_the_next_bound(self):
        self.assertEqual(found_by_bound(["xxa", "a"], "a", 1), ([(19, 1)], 1))
        # Bounds 19, 18, 11.
        names = ["xxa", "A", "a"]
        self.assertEqual(found_by_bound(names, "a", 1), ([(19, 2)], 1))
        self.assertEqual(found_by_bound(names, "a", 2), ([(19, 2), (18, 1)], 2))
        self.assertEqual(found_by_bound(names, "a", 3), ([(19, 2), (18, 1), (9, 0)], 3))
        self.assertEqual(found_by_bound(names, "a", 4), ([(19, 2), (18, 1), (9, 0)], 3))

    def test_laying_goes_on_where_the_last_found_counts_as_much_as_the_next_bound(self):
        self.assertEqual(found_by_bound(["abc", "a"], "a", 1), ([(19, 1)], 2))
        # The first one counts 10, as one place is ahead of it; the second has 10 as its bound.
        self.assertEqual((best("a", "xa")[0], bound("a", "XA")), (10, 10))
        self.assertEqual(found_by_bound(["xa", "XA"], "a", 1), ([(10, 0)], 2))
        self.assertEqual((best("A", "_A")[0], bound("A", "xA")), (16, 16))
        self.assertEqual(found_by_bound(["_A", "xA"], "A", 1), ([(16, 0)], 2))

    def test_a_bound_of_one_point_less_is_not_laid(self):
        self.assertEqual((best("a", "_a")[0], bound("a", "xA")), (16, 15))
        self.assertEqual(found_by_bound(["_a", "xA"], "a", 1), ([(16, 0)], 1))

    def test_a_name_of_like_points_and_a_lesser_length_is_still_found(self):
        self.assertEqual(found_by_bound(["abc", "ab", "a"], "a", 2), ([(19, 2), (19, 1)], 3))

    def test_like_bounds_by_lesser_numbers(self):
        # All have 11 as their bound, and count 10, 9 and 8: none counts more than it.
        self.assertEqual(found_by_bound(["xxxa", "xxa", "xa"], "a", 1), ([(10, 2)], 3))
        # The bound is 19 of all: laid are all with it, and no more.
        self.assertEqual(found_by_bound(["a", "xa", "ab", "ac"], "a", 1), ([(19, 0)], 3))
        # Both of the like bounds of 37 are laid, the later one being found, and not that of 35.
        names = ["A_xXB", "axxxxb", "ab"]
        self.assertEqual([bound("ab", name) for name in names], [35, 37, 37])
        self.assertEqual(found_by_bound(names, "ab", 1), ([(37, 2)], 2))

    def test_the_first_of_those_found_counts_not_the_last_laid(self):
        # Two are asked for: the second best of what was laid is held against the next bound.
        names = ["axxxxxxxb_", "aB", "ab", "xxaxxxb"]
        self.assertEqual([bound("ab", name) for name in names], [37, 41, 37, 29])
        self.assertEqual([best("ab", name)[0] for name in names], [25, 41, 37, 17])
        self.assertEqual(found_by_bound(names, "ab", 2), ([(41, 1), (37, 2)], 3))
        self.assertEqual(found_by_bound(names, "ab", 1), ([(41, 1)], 1))
        self.assertEqual(found_by_bound(names, "ab", 3), ([(41, 1), (37, 2), (25, 0)], 4))

    def test_the_query_without_signs(self):
        self.assertEqual(found_by_bound(["ab", "a", "_"], "", 1), ([(0, 1)], 3))
        self.assertEqual(found_by_bound(["ab", "a", "_"], "", 9), ([(0, 1), (0, 2), (0, 0)], 3))

    def test_names_that_are_alike(self):
        self.assertEqual(found_by_bound(["a", "b", "a"], "a", 1), ([(19, 0)], 2))

    def test_against_a_plain_one(self):
        for names in NAME_LISTS:
            for query in SHORT_QUERIES + ["ff", "fF", "fd", "few", "FF", "fewf"]:
                for many in (0, 1, 2, 3, 7, 99):
                    told = found_by_bound(names, query, many)
                    self.assertEqual(told, plain_found_by_bound(names, query, many), (names, query, many))
                    self.assertEqual(told[0], finds(names, query, many), (names, query, many))


if __name__ == "__main__":
    unittest.main()
