import itertools
import random
import unittest

from fewfind.names import fits
from fewfind.sieves import Sieve, telling
from plain import LONG_NAMES, LONG_QUERIES, NAME_LISTS, SHORT_NAMES, SHORT_QUERIES, plain_left, plain_telling, words
from steps import check_new_each_time


def state(sieve):
    return (sieve.signs(), [sieve.left(query) for query in ("", "a", "A", "b", "aa", "aA", "0", "q")])


class Left(unittest.TestCase):
    def test_the_query_without_signs_leaves_all(self):
        self.assertEqual(Sieve(["ab", "_", "ab"]).left(""), [0, 1, 2])
        self.assertEqual(Sieve([]).left(""), [])
        self.assertEqual(Sieve([]).left("a"), [])

    def test_small_letters(self):
        names = ["a", "A", "b", "_", "ba", "xA"]
        self.assertEqual(Sieve(names).left("a"), [0, 1, 4, 5])
        self.assertEqual(Sieve(names).left("ab"), [4])
        self.assertEqual(Sieve(names).left("q"), [])

    def test_great_letters(self):
        names = ["a", "A", "B", "_", "bA", "AB"]
        self.assertEqual(Sieve(names).left("A"), [1, 4, 5])
        self.assertEqual(Sieve(names).left("BA"), [5])
        self.assertEqual(Sieve(names).left("Q"), [])

    def test_figures(self):
        names = ["a0", "09", "9", "a", "90"]
        self.assertEqual(Sieve(names).left("0"), [0, 1, 4])
        self.assertEqual(Sieve(names).left("90"), [1, 4])
        self.assertEqual(Sieve(names).left("1"), [])

    def test_signs_in_any_order(self):
        self.assertEqual(Sieve(["ab", "ba", "b9A"]).left("ab"), [0, 1, 2])
        self.assertEqual(Sieve(["ab", "ba", "b9A"]).left("9ba"), [2])

    def test_a_sign_several_times(self):
        names = ["a", "aa", "aA", "AA", "aaa", "Aba", "9", "99", "9a9"]
        self.assertEqual(Sieve(names).left("a"), [0, 1, 2, 3, 4, 5, 8])
        self.assertEqual(Sieve(names).left("aa"), [1, 2, 3, 4, 5])
        self.assertEqual(Sieve(names).left("aaa"), [4])
        self.assertEqual(Sieve(names).left("AA"), [3])
        self.assertEqual(Sieve(names).left("99"), [7, 8])
        self.assertEqual(Sieve(names).left("999"), [])

    def test_a_small_letter_and_its_great_one(self):
        names = ["a", "A", "aA", "AA", "aa", "Aa", "aaA", "AAA"]
        for query in ("aA", "Aa"):
            self.assertEqual(Sieve(names).left(query), [2, 3, 5, 6, 7], query)
        self.assertEqual(Sieve(names).left("aAa"), [6, 7])
        self.assertEqual(Sieve(names).left("AaA"), [7])

    def test_great_letters_of_the_query_are_not_met_by_small_ones(self):
        # Two letters are there, and one of them great; the query has two great ones.
        self.assertEqual(Sieve(["aA", "AA"]).left("AA"), [1])

    def test_names_with_marks(self):
        self.assertEqual(Sieve(["a_b", "_-./", "/a.B", "-"]).left("ab"), [0, 2])
        self.assertEqual(Sieve(["_-./", "-"]).left(""), [0, 1])

    def test_names_that_are_alike(self):
        self.assertEqual(Sieve(["a", "b", "a"]).left("a"), [0, 2])

    def test_numbers_rise(self):
        self.assertEqual(Sieve(["a"] * 12).left("a"), list(range(12)))

    def test_against_a_plain_one(self):
        for names in NAME_LISTS + [SHORT_NAMES]:
            sieve = Sieve(names)
            for query in SHORT_QUERIES + LONG_QUERIES + ["aAaA", "AAaa", "aAbB0", "00ab"]:
                self.assertEqual(sieve.left(query), plain_left(names, query), (names[:20], query))

    def test_all_names_and_queries_of_one_letter(self):
        names = [name for name in words("aA", 5) if name]
        sieve = Sieve(names)
        for query in words("aA", 5):
            self.assertEqual(sieve.left(query), plain_left(names, query), query)


class Add(unittest.TestCase):
    def test_add_tells_the_next_number(self):
        sieve = Sieve([])
        self.assertEqual([sieve.add(name) for name in ("a", "b", "a")], [0, 1, 2])
        sieve = Sieve(["x", "y"])
        self.assertEqual([sieve.add(name) for name in ("a", "a")], [2, 3])

    def test_an_added_name_is_left(self):
        sieve = Sieve(["a", "b"])
        sieve.add("_Aa")
        sieve.add("b9")
        self.assertEqual(sieve.left(""), [0, 1, 2, 3])
        self.assertEqual(sieve.left("a"), [0, 2])
        self.assertEqual(sieve.left("aA"), [2])
        self.assertEqual(sieve.left("9b"), [3])

    def test_an_added_name_has_signs(self):
        sieve = Sieve(["a", "b"])
        sieve.add("aa_")
        self.assertEqual(sieve.signs(), [("_", 1), ("a", 2), ("b", 1)])

    def test_name_by_name_is_all_at_once(self):
        for names in NAME_LISTS:
            sieve = Sieve([])
            for number, name in enumerate(names):
                self.assertEqual(sieve.add(name), number)
            self.assertEqual(state(sieve), state(Sieve(names)))


class Signs(unittest.TestCase):
    def test_no_names(self):
        self.assertEqual(Sieve([]).signs(), [])

    def test_names_are_counted_not_places(self):
        self.assertEqual(Sieve(["aaa", "ab", "b", "bab"]).signs(), [("a", 3), ("b", 3)])
        self.assertEqual(Sieve(["aaa", "aaa"]).signs(), [("a", 2)])

    def test_signs_rise(self):
        signs = "-./09AZ_az"
        self.assertEqual(Sieve([signs[::-1]]).signs(), [(sign, 1) for sign in signs])
        self.assertEqual(Sieve(list("z_A/a9Z.-0")).signs(), [(sign, 1) for sign in signs])

    def test_small_and_great_letters_are_signs_of_their_own(self):
        self.assertEqual(Sieve(["aA", "A", "Ab"]).signs(), [("A", 3), ("a", 1), ("b", 1)])

    def test_against_a_plain_one(self):
        for names in NAME_LISTS:
            expected = []
            for sign in sorted(set("".join(names))):
                expected.append((sign, len([name for name in names if sign in name])))
            self.assertEqual(Sieve(names).signs(), expected)


class EachByItself(unittest.TestCase):
    def test_two_sieves_leave_one_another_as_they_were(self):
        names = ["ab", "A"]
        one, other = Sieve(names), Sieve(names)
        before = state(other)
        self.assertEqual(one.add("q0"), 2)
        self.assertEqual(state(other), before)
        self.assertEqual(other.add("a"), 2)
        self.assertEqual((one.left("a"), other.left("a")), ([0, 1], [0, 1, 2]))
        self.assertEqual(names, ["ab", "A"])

    def test_names_changed_behind_it(self):
        names = ["ab", "A"]
        sieve = Sieve(names)
        before = state(sieve)
        names[0] = "q"
        names.append("aa0")
        self.assertEqual(state(sieve), before)
        names.clear()
        self.assertEqual(state(sieve), before)
        self.assertEqual(sieve.add("a"), 2)
        self.assertEqual(names, [])

    def test_told_lists_may_be_changed(self):
        sieve = Sieve(["ab", "A"])
        before = state(sieve)
        for tell in (sieve.signs, lambda: sieve.left(""), lambda: sieve.left("a")):
            check_new_each_time(self, tell)
            self.assertEqual(state(sieve), before)

    def test_kinds(self):
        sieve = Sieve(["ab"])
        self.assertIs(type(sieve.left("")), list)
        self.assertIs(type(sieve.signs()), list)
        self.assertIs(type(sieve.signs()[0]), tuple)
        self.assertIs(type(sieve.add("a")), int)


class Telling(unittest.TestCase):
    def test_no_names(self):
        self.assertEqual(telling([]), [])

    def test_one_name(self):
        for name in ("a", "few_find", "_", "-./"):
            self.assertEqual(telling([name]), [""])

    def test_one_sign(self):
        self.assertEqual(telling(["a", "b"]), ["a", "b"])
        self.assertEqual(telling(["few", "find", "fox"]), ["e", "d", "o"])

    def test_two_signs(self):
        self.assertEqual(telling(["ab", "ba"]), ["ab", "ba"])
        self.assertEqual(telling(["ab", "bc", "ca"]), ["ab", "bc", "ca"])

    def test_three_signs(self):
        self.assertEqual(telling(["abc", "acb", "bca", "bacab"]), ["abc", None, None, "aa"])
        self.assertEqual(telling(["aba", "baa", "aab"]), ["aba", "baa", "aab"])

    def test_more_than_three_signs_are_none(self):
        # Each row of three signs of the first name is also one of another name.
        names = ["abcd", "abc", "abd", "acd", "bcd"]
        self.assertEqual(telling(names), [None] * 5)

    def test_names_that_are_alike(self):
        self.assertEqual(telling(["a", "a"]), [None, None])
        self.assertEqual(telling(["ab", "c", "ab"]), [None, "c", None])

    def test_a_name_that_is_a_part_of_another_one(self):
        self.assertEqual(telling(["few", "few_find"]), [None, "d"])
        self.assertEqual(telling(["a", "aa", "aaa", "aaaa"]), [None, None, None, None])
        self.assertEqual(telling(["a", "aa", "aaa"]), [None, None, "aaa"])

    def test_of_several_the_least(self):
        self.assertEqual(telling(["dcba", "x"]), ["a", "x"])
        self.assertEqual(telling(["zaZA9", "_"]), ["9", None])
        self.assertEqual(telling(["bab", "aab", "abb"])[0], "ba")
        self.assertEqual(telling(["cbaabc", "abc"])[0], "aa")

    def test_fewer_signs_ahead_of_lesser_ones(self):
        self.assertEqual(telling(["aab", "a"])[0], "b")

    def test_the_signs_are_signs_of_the_name(self):
        # The small letter fits the great one, but is none of its signs.
        self.assertEqual(telling(["A", "b"]), ["A", "b"])
        self.assertEqual(telling(["aB", "c"]), ["B", "c"])

    def test_a_small_letter_fits_a_great_one_of_another_name(self):
        self.assertEqual(telling(["a", "A"]), [None, "A"])
        self.assertEqual(telling(["ab", "A"]), ["b", "A"])
        self.assertEqual(telling(["ab", "Ab", "aB"]), [None, "A", "B"])
        self.assertEqual(telling(["ab", "BA"]), ["ab", "A"])

    def test_marks_are_in_no_query(self):
        self.assertEqual(telling(["_", "-"]), [None, None])
        self.assertEqual(telling(["a_b", "ab"]), [None, None])
        self.assertEqual(telling(["a_b", "a"]), ["b", None])
        self.assertEqual(telling(["_b_a_", "a-b"]), ["ba", "ab"])

    def test_figures(self):
        self.assertEqual(telling(["a1", "a2", "a12", "a21"]), [None, None, "12", "21"])

    def test_a_sign_twice(self):
        self.assertEqual(telling(["ab", "aab"]), [None, "aa"])
        self.assertEqual(telling(["aAa", "aa"]), ["A", None])
        self.assertEqual(telling(["AA", "Aa", "a"]), ["AA", None, None])

    def check(self, names):
        told = telling(names)
        self.assertEqual(told, plain_telling(names), names)
        for number, query in enumerate(told):
            if query is not None:
                self.assertEqual([other for other, name in enumerate(names) if fits(query, name)], [number], names)

    def test_lists_of_names_against_a_plain_one(self):
        for names in NAME_LISTS:
            self.check(names)
            self.check(names[:4])

    def test_all_lists_of_few_names_against_a_plain_one(self):
        names = [name for name in words("aAb", 2) if name] + ["a_b", "bab"]
        for length in range(4):
            for chosen in itertools.product(names, repeat=length):
                self.check(list(chosen))

    def test_lists_by_chance_against_a_plain_one(self):
        choices = random.Random(9)
        for row in range(300):
            signs = choices.choice(["ab", "abA", "abc_", "aAbB0"])
            names = []
            for number in range(choices.randrange(2, 9)):
                names.append("".join(choices.choice(signs) for place in range(choices.randrange(1, 9))))
            self.check(names)

    def test_names_stay_as_they_were(self):
        names = list(LONG_NAMES)
        told = telling(names)
        self.assertEqual(names, LONG_NAMES)
        kept = list(told)
        told.clear()
        self.assertEqual(telling(names), kept)
        self.assertIsNot(telling(names), telling(names))


if __name__ == "__main__":
    unittest.main()
