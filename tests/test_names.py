import string
import unittest

from fewfind.errors import NoFit
from fewfind.names import first_laying, fits, how_many, is_laying, is_name, is_query, last_laying

LETTERS_AND_FIGURES = string.ascii_lowercase + string.ascii_uppercase + string.digits
MARKS = "_-./"
OTHER_KINDS = [
    0, 1, -1, 24, True, False, None, [], (), ["a"], ("a",), ["a", "b"], [["a"]], [("a", ["b"])], ((("a",),),),
    [None, True, 3, "a", [[[["a"]]]]], (1, [2, (3, [4, (5,)])]),
]
NOT_ASCII = ["\u00e9", "\u00c9", "\u00df", "\u00b2", "\u0660", "\u017f", "\u212a", "\u0131", "\uff21", "\u2013"]


class IsName(unittest.TestCase):
    def test_lengths(self):
        for length in range(1, 25):
            self.assertIs(is_name("a" * length), True, length)
        for length in (0, 25, 26, 48, 100):
            self.assertIs(is_name("a" * length), False, length)

    def test_each_ascii_sign(self):
        for number in range(128):
            sign = chr(number)
            expected = sign in LETTERS_AND_FIGURES + MARKS
            for thing in (sign, "a" + sign, sign + "a", "a" + sign + "9"):
                self.assertIs(is_name(thing), expected, repr(thing))

    def test_signs_beyond_ascii(self):
        for sign in NOT_ASCII:
            self.assertIs(is_name(sign), False, repr(sign))
            self.assertIs(is_name("a" + sign), False, repr(sign))

    def test_all_kinds_of_signs_together(self):
        self.assertIs(is_name("src/Few-find_2.py"), True)
        self.assertIs(is_name("____----....////"), True)

    def test_things_of_other_kinds(self):
        for thing in OTHER_KINDS:
            self.assertIs(is_name(thing), False, thing)


class IsQuery(unittest.TestCase):
    def test_lengths(self):
        for length in range(0, 9):
            self.assertIs(is_query("a" * length), True, length)
        for length in (9, 10, 16, 24, 100):
            self.assertIs(is_query("a" * length), False, length)

    def test_each_ascii_sign(self):
        for number in range(128):
            sign = chr(number)
            expected = sign in LETTERS_AND_FIGURES
            for thing in (sign, "a" + sign, sign + "a", "a" + sign + "9"):
                self.assertIs(is_query(thing), expected, repr(thing))

    def test_marks_are_none(self):
        for mark in MARKS:
            self.assertIs(is_query(mark), False, mark)
            self.assertIs(is_query("ab" + mark + "c"), False, mark)

    def test_signs_beyond_ascii(self):
        for sign in NOT_ASCII:
            self.assertIs(is_query(sign), False, repr(sign))
            self.assertIs(is_query("a" + sign), False, repr(sign))

    def test_things_of_other_kinds(self):
        for thing in OTHER_KINDS:
            self.assertIs(is_query(thing), False, thing)


class Meeting(unittest.TestCase):
    def test_every_sign_of_a_query_with_every_sign_of_a_name(self):
        for sign in LETTERS_AND_FIGURES:
            for other in LETTERS_AND_FIGURES + MARKS:
                great = dict(zip(string.ascii_lowercase, string.ascii_uppercase))
                expected = other == sign or other == great.get(sign)
                self.assertIs(fits(sign, other), expected, (sign, other))
                self.assertIs(is_laying(sign, other, [0]), expected, (sign, other))
                self.assertEqual(how_many(sign, other), int(expected), (sign, other))

    def test_small_and_great(self):
        self.assertTrue(fits("a", "A"))
        self.assertFalse(fits("A", "a"))
        self.assertTrue(fits("7", "x7"))
        self.assertFalse(fits("7", "x8"))


class IsLaying(unittest.TestCase):
    def test_layings(self):
        self.assertIs(is_laying("ab", "aabB", [0, 2]), True)
        self.assertIs(is_laying("ab", "aabB", [1, 2]), True)
        self.assertIs(is_laying("ab", "aabB", [0, 3]), True)
        self.assertIs(is_laying("aB", "aabB", [1, 3]), True)
        self.assertIs(is_laying("12", "1_2", [0, 2]), True)

    def test_signs_that_do_not_meet(self):
        self.assertIs(is_laying("aB", "aabB", [0, 2]), False)
        self.assertIs(is_laying("ab", "aabB", [0, 1]), False)
        self.assertIs(is_laying("ab", "aabB", [2, 3]), False)

    def test_too_few_or_too_many_places(self):
        for thing in ([], [0], [1], [0, 1, 2], [0, 1, 2, 3]):
            self.assertIs(is_laying("aa", "aaaa", thing), False, thing)
        self.assertIs(is_laying("aa", "aaaa", [0, 1]), True)

    def test_places_that_do_not_rise(self):
        for thing in ([0, 0], [1, 0], [2, 2], [3, 1]):
            self.assertIs(is_laying("aa", "aaaa", thing), False, thing)
        self.assertIs(is_laying("aaa", "aaaa", [0, 2, 1]), False)
        self.assertIs(is_laying("aaa", "aaaa", [0, 2, 2]), False)

    def test_places_outside_the_name(self):
        for thing in ([-1], [-4], [4], [5], [100], [-100]):
            self.assertIs(is_laying("a", "aaaa", thing), False, thing)
        for thing in ([-1, 0], [-2, -1], [3, 4], [-4, 3]):
            self.assertIs(is_laying("aa", "aaaa", thing), False, thing)

    def test_truths_are_no_places(self):
        for thing in ([False], [True]):
            self.assertIs(is_laying("a", "aaaa", thing), False, thing)
        for thing in ([False, True], [0, True], [False, 1], [True, 2]):
            self.assertIs(is_laying("aa", "aaaa", thing), False, thing)

    def test_things_that_are_no_lists_of_places(self):
        for thing in [(0,), (), "0", "a", "", 0, 1, True, False, None]:
            self.assertIs(is_laying("a", "aaaa", thing), False, thing)
        for thing in [[None], ["0"], ["a"], [[0]], [(0,)], [[]], [[[[[0]]]]]]:
            self.assertIs(is_laying("a", "aaaa", thing), False, thing)
        for thing in [(0, 1), "01", "aa", [0, None], [0, "1"], [0, [1]], [0, (1,)], [[0], [1]], [[0, 1]]]:
            self.assertIs(is_laying("aa", "aaaa", thing), False, thing)

    def test_the_query_without_signs(self):
        self.assertIs(is_laying("", "abc", []), True)
        for thing in [(), "", 0, None, False, [0], [None], [[]]]:
            self.assertIs(is_laying("", "abc", thing), False, thing)


class Layings(unittest.TestCase):
    def check(self, query, name, first, last, count):
        self.assertIs(fits(query, name), True)
        self.assertEqual(first_laying(query, name), first)
        self.assertEqual(last_laying(query, name), last)
        self.assertEqual(how_many(query, name), count)

    def test_none(self):
        for query, name in [
            ("a", "b"), ("A", "a"), ("ab", "ba"), ("aa", "a"), ("abc", "ab"), ("aA", "Aa"), ("10", "01"), ("a", "_"),
            ("abcdefgh", "abcdefg"), ("aaaaaaaa", "aaaaaaa"),
        ]:
            self.assertIs(fits(query, name), False, (query, name))
            self.assertEqual(how_many(query, name), 0, (query, name))
            with self.assertRaises(NoFit):
                first_laying(query, name)
            with self.assertRaises(NoFit):
                last_laying(query, name)

    def test_one(self):
        self.check("a", "a", [0], [0], 1)
        self.check("fF", "few_Find", [0, 4], [0, 4], 1)
        self.check("abcdefgh", "a-b_c.d/e-f_g.h", [0, 2, 4, 6, 8, 10, 12, 14], [0, 2, 4, 6, 8, 10, 12, 14], 1)

    def test_many(self):
        self.check("a", "abaA", [0], [3], 3)
        self.check("ab", "aabb", [0, 2], [1, 3], 4)
        self.check("aba", "abababa", [0, 1, 2], [4, 5, 6], 10)
        self.check("Ab", "aAbAB", [1, 2], [3, 4], 3)
        self.check("aaaaaaaa", "a" * 24, list(range(8)), list(range(16, 24)), 735471)

    def test_the_query_without_signs(self):
        self.check("", "a", [], [], 1)
        self.check("", "_", [], [], 1)
        self.check("", "a" * 24, [], [], 1)

    def test_lengths_beyond_the_bounds_are_not_refused(self):
        self.check("a" * 10, "a" * 30, list(range(10)), list(range(20, 30)), 30045015)
        self.check("", "", [], [], 1)
        self.assertIs(fits("a", ""), False)


if __name__ == "__main__":
    unittest.main()
