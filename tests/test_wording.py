import itertools
import unittest

from fewfind.finding import finds
from fewfind.names import fits
from fewfind.points import best
from fewfind.wording import fit_words, found_by_words, places_by_words, points_by_words
from plain import LONG_NAMES, NAME_LISTS, SHORT_NAMES, plain_by_words, plain_found_by_words

NO_WORDS = ["", " ", "  ", " " * 20]
WORDS = ["a", "A", "b", "0", "ab", "ba", "aa", "aB"]
TEXTS = (
    NO_WORDS + WORDS + [f"{one} {other}" for one in WORDS for other in WORDS]
    + ["  a   b ", "a b a", "b  ab A", " ab ab ab", "a A b 0", "0 b A a "]
)
LONG_TEXTS = [
    "s", "few find", "find few", "readme src txt", "  src   find ", "http http", "HTTP server 2", "a b c d e f g h",
    "ab12 AB12", "z9Z9z9Z9 z9", "miss MISS sipp", "q", "s q", "q s", "aaaa aaa aa a", "readmetx srcfewfi",
]


class FitWords(unittest.TestCase):
    def test_no_words_fit_every_name(self):
        for text in NO_WORDS:
            for name in ("a", "_", "few_find", "a" * 24):
                self.assertIs(fit_words(text, name), True, (text, name))

    def test_one_word_fits_as_a_query(self):
        for query in ("a", "fw", "few", "F", "FF", "wf", "9", "fewfindx"):
            for name in ("few_find", "fewFind", "a", "A9"):
                self.assertIs(fit_words(query, name), fits(query, name), (query, name))

    def test_each_word_must_fit(self):
        self.assertIs(fit_words("few find", "few_find"), True)
        self.assertIs(fit_words("few fox", "few_find"), False)
        self.assertIs(fit_words("fox few", "few_find"), False)
        self.assertIs(fit_words("few x find", "few_find"), False)
        self.assertIs(fit_words("few find F", "few_find"), False)
        self.assertIs(fit_words("few find F", "few_Find"), True)

    def test_words_stand_in_any_order(self):
        self.assertIs(fit_words("find few", "few_find"), True)
        self.assertIs(fits("findfew", "few_find"), False)

    def test_words_may_share_signs_of_the_name(self):
        self.assertIs(fit_words("a a a", "a"), True)
        self.assertIs(fits("aa", "a"), False)
        self.assertIs(fit_words("ab ba", "aba"), True)
        self.assertIs(fit_words("few ew w", "few"), True)

    def test_a_blank_parts_words(self):
        self.assertIs(fit_words("ba", "ab"), False)
        self.assertIs(fit_words("b a", "ab"), True)

    def test_blanks_ahead_between_and_behind(self):
        for text in (" b a", "b a ", "b  a", "   b     a   "):
            self.assertIs(fit_words(text, "ab"), True, text)
            self.assertIs(fit_words(text, "a"), False, text)

    def test_words_of_eight_signs(self):
        name = "abcdefghABCDEFGH01234567"
        self.assertIs(fit_words("abcdefgh ABCDEFGH 01234567", name), True)
        self.assertIs(fit_words("abcdefgh ABCDEFGH 01234568", name), False)


class PointsByWords(unittest.TestCase):
    def test_no_words_count_nothing(self):
        for text in NO_WORDS:
            for name in ("a", "_", "few_find"):
                self.assertEqual(points_by_words(text, name), 0)

    def test_one_word_counts_as_a_query(self):
        for query in ("f", "fw", "ff", "find"):
            self.assertEqual(points_by_words(query, "few_find"), best(query, "few_find")[0])

    def test_words_count_together(self):
        self.assertEqual(points_by_words("a b", "ab"), 19 + 10)
        self.assertEqual(points_by_words("few find", "few_find"), 55 + 17 + 18 + 18 + 18 - 3)

    def test_each_word_begins_anew(self):
        # As one word the signs stand beside one another, and only the first one has places ahead of it.
        self.assertEqual(points_by_words("ab", "xab"), 10 + 18)
        self.assertEqual(points_by_words("a b", "xab"), 10 + 9)

    def test_the_same_word_twice(self):
        self.assertEqual(points_by_words("a a", "a"), 38)
        self.assertEqual(points_by_words("ab ab ab", "ab"), 3 * 37)

    def test_a_small_letter_at_its_great_one(self):
        self.assertEqual(points_by_words("b b", "AB"), 2 * 9)

    def test_blanks_count_nothing(self):
        for text in (" b a", "b a ", "b  a", "   b     a   "):
            self.assertEqual(points_by_words(text, "ab"), 29, text)

    def test_none_where_one_does_not_fit(self):
        for text in ("x", "few x", "x few", "few x find", " x", "x ", "F", "few F"):
            self.assertIsNone(points_by_words(text, "few_find"), text)


class PlacesByWords(unittest.TestCase):
    def test_no_words_have_no_places(self):
        for text in NO_WORDS:
            self.assertEqual(places_by_words(text, "few_find"), [])

    def test_places_of_all_words_rise(self):
        self.assertEqual(places_by_words("few", "few_find"), [0, 1, 2])
        self.assertEqual(places_by_words("w few", "few_find"), [0, 1, 2])
        self.assertEqual(places_by_words("find e", "few_find"), [1, 4, 5, 6, 7])
        self.assertEqual(places_by_words("d i w f", "few_find"), [0, 2, 5, 7])

    def test_shared_places_come_once(self):
        self.assertEqual(places_by_words("a a", "a"), [0])
        self.assertEqual(places_by_words("few ew fe", "few"), [0, 1, 2])
        self.assertEqual(places_by_words("ff fi", "few_find"), [0, 4, 5])

    def test_places_are_those_of_the_best_layings(self):
        self.assertEqual(places_by_words("b", "ab_b"), [3])
        self.assertEqual(places_by_words("ab b", "ab_b"), [0, 1, 3])

    def test_places_are_no_texts(self):
        self.assertEqual(places_by_words("c b a", "a23456789_b_c"), [0, 10, 12])

    def test_none_where_one_does_not_fit(self):
        for text in ("x", "few x", "x few", "few x find", " x", "x ", "F"):
            self.assertIsNone(places_by_words(text, "few_find"), text)


class FoundByWords(unittest.TestCase):
    NAMES = ["xb_a", "ab", "ba", "abc", "a", "b", "a_b", "ab"]

    def test_by_points_then_lengths_then_numbers(self):
        self.assertEqual(found_by_words(self.NAMES, "a b", 99), [(34, 6), (29, 1), (29, 2), (29, 7), (29, 3), (24, 0)])

    def test_how_many(self):
        found = found_by_words(self.NAMES, "a b", 99)
        for many in range(9):
            self.assertEqual(found_by_words(self.NAMES, "a b", many), found[:many], many)

    def test_less_than_none_is_none(self):
        self.assertEqual(found_by_words(self.NAMES, "a b", -1), [])

    def test_the_order_of_words_that_of_one_word_and_that_of_both(self):
        self.assertEqual([row[1] for row in finds(self.NAMES, "ab", 99)], [1, 7, 3, 6])
        self.assertEqual([row[1] for row in found_by_words(self.NAMES, "ab", 99)], [1, 7, 3, 6])
        self.assertEqual([row[1] for row in found_by_words(self.NAMES, "ab b", 99)], [6, 1, 7, 3])

    def test_no_words_find_all(self):
        for text in NO_WORDS:
            self.assertEqual(found_by_words(["ab", "_", "abc", "b"], text, 99), [(0, 1), (0, 3), (0, 0), (0, 2)])

    def test_nothing_found(self):
        self.assertEqual(found_by_words([], "a b", 3), [])
        self.assertEqual(found_by_words([], "", 3), [])
        self.assertEqual(found_by_words(self.NAMES, "a b q", 3), [])


class AgainstPlainOnes(unittest.TestCase):
    def check(self, text, name):
        expected = plain_by_words(text, name)
        at = (text, name)
        self.assertIs(fit_words(text, name), expected is not None, at)
        self.assertEqual(points_by_words(text, name), None if expected is None else expected[0], at)
        self.assertEqual(places_by_words(text, name), None if expected is None else expected[1], at)

    def test_short_names(self):
        for text, name in itertools.product(TEXTS, SHORT_NAMES):
            self.check(text, name)

    def test_long_names(self):
        for text, name in itertools.product(LONG_TEXTS, LONG_NAMES):
            self.check(text, name)

    def test_lists_of_names(self):
        for names in NAME_LISTS:
            for text in TEXTS + LONG_TEXTS:
                found = plain_found_by_words(names, text)
                for many in (0, 1, 2, len(found), len(found) + 1, 999):
                    self.assertEqual(found_by_words(names, text, many), found[:many], (names, text, many))


if __name__ == "__main__":
    unittest.main()
