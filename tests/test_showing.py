import itertools
import unittest

from fewfind.errors import NoLaying, NoText
from fewfind.points import best
from fewfind.showing import read_shown, runs, shown
from plain import LONG_NAMES, LONG_QUERIES, SHORT_NAMES, SHORT_QUERIES, all_layings, words
from steps import check_new_each_time

NO_PLACES = [
    ("ab", [1, 0]), ("abc", [0, 2, 1]), ("ab", [0, 0]), ("abc", [0, 1, 1]), ("abc", [1, 1, 2]), ("ab", [-1]),
    ("ab", [-1, 0]), ("ab", [-2, -1]), ("ab", [2]), ("ab", [0, 2]), ("ab", [0, 1, 2]), ("a", [1]), ("a", [24]),
    ("abc", [2, 1, 0]), ("ab", [1, -1]), ("a" * 24, [24]), ("a" * 24, [23, 24]),
]
NAMES_AND_RUNS = [
    ("few_find", [], [], "few_find"),
    ("few_find", [0], [(0, 1)], "[f]ew_find"),
    ("few_find", [3], [(3, 1)], "few[_]find"),
    ("few_find", [7], [(7, 1)], "few_fin[d]"),
    ("few_find", [0, 1], [(0, 2)], "[fe]w_find"),
    ("few_find", [0, 2], [(0, 1), (2, 1)], "[f]e[w]_find"),
    ("few_find", [0, 4], [(0, 1), (4, 1)], "[f]ew_[f]ind"),
    ("few_find", [0, 1, 4, 5, 6], [(0, 2), (4, 3)], "[fe]w_[fin]d"),
    ("few_find", [1, 3, 4, 6, 7], [(1, 1), (3, 2), (6, 2)], "f[e]w[_f]i[nd]"),
    ("few_find", [0, 2, 4, 6], [(0, 1), (2, 1), (4, 1), (6, 1)], "[f]e[w]_[f]i[n]d"),
    ("few_find", [0, 1, 2, 3, 4, 5, 6, 7], [(0, 8)], "[few_find]"),
    ("a", [], [], "a"),
    ("a", [0], [(0, 1)], "[a]"),
    ("-", [0], [(0, 1)], "[-]"),
    ("a" * 24, list(range(24)), [(0, 24)], "[" + "a" * 24 + "]"),
    ("abcdefghijklmnop", [8, 9, 10, 11], [(8, 4)], "abcdefgh[ijkl]mnop"),
]


def all_places(name):
    for length in range(len(name) + 1):
        for places in itertools.combinations(range(len(name)), length):
            yield list(places)


def plain_shown(name, places):
    bracketed = "".join("[" + sign + "]" if place in places else sign for place, sign in enumerate(name))
    return bracketed.replace("][", "")


class RunsAndShown(unittest.TestCase):
    def test_runs(self):
        for name, places, told, text in NAMES_AND_RUNS:
            self.assertEqual(runs(name, places), told, (name, places))

    def test_shown(self):
        for name, places, told, text in NAMES_AND_RUNS:
            self.assertEqual(shown(name, places), text)

    def test_places_need_be_no_laying_of_a_query(self):
        self.assertEqual(runs("a_.b", [1, 2]), [(1, 2)])
        self.assertEqual(shown("a_.b", [1, 2]), "a[_.]b")
        self.assertEqual(shown("a" * 12, list(range(12))), "[" + "a" * 12 + "]")

    def test_no_places(self):
        for name, places in NO_PLACES:
            for tell in (runs, shown):
                with self.assertRaises(NoLaying, msg=(name, places)):
                    tell(name, places)

    def test_all_places_of_short_names(self):
        for name in ("a", "aB", "a_b", "a-b.C", "aaaaaa", "ab/01_Cd"):
            for places in all_places(name):
                told = runs(name, places)
                self.assertEqual([place for first, length in told for place in range(first, first + length)], places)
                for former, latter in zip(told, told[1:]):
                    self.assertLess(former[0] + former[1], latter[0], (name, places))
                self.assertEqual(shown(name, places), plain_shown(name, places))


class ReadShown(unittest.TestCase):
    def check_refused(self, text):
        with self.assertRaises(NoText, msg=text):
            read_shown(text)

    def test_what_shown_tells(self):
        for name, places, told, text in NAMES_AND_RUNS:
            self.assertEqual(read_shown(text), (name, places), text)

    def test_not_closed_or_not_opened(self):
        for text in ("[", "]", "[a", "a[", "a]", "]a", "a[b", "a]b", "[a]b]", "[a]b[", "[a]b[c", "]a[", "a[b]]", "[[a]"):
            self.check_refused(text)

    def test_empty_brackets(self):
        for text in ("[]", "[]a", "a[]", "a[]b", "[a]b[]", "[][]", "[]a[b]"):
            self.check_refused(text)

    def test_one_right_behind_another(self):
        for text in ("[a][b]", "[ab][c]", "x[a][b]y", "[a]b[c][d]"):
            self.check_refused(text)

    def test_within_one_another(self):
        for text in ("[[a]]", "[a[b]]", "[[a]b]", "[a[b]c]", "[[ab]", "[ab]]"):
            self.check_refused(text)

    def test_the_rest_is_no_name(self):
        for text in ("[a b]", " a", "a ", "[ ]", "a,b", "a(b)", "{a}", "[a]:", "~", "[~]", "a\\b", "\"a\"", "a+[b]", "[%]"):
            self.check_refused(text)

    def test_other_signs_are_no_names(self):
        for number in range(32, 127):
            sign = chr(number)
            if not (sign.isalnum() or sign in "_-./"):
                for text in (sign, "a" + sign, sign + "a", "[a" + sign + "]", "[a]" + sign, sign + "[a]"):
                    self.check_refused(text)

    def test_no_signs(self):
        self.check_refused("")

    def test_lengths(self):
        self.assertEqual(read_shown("a" * 24), ("a" * 24, []))
        self.assertEqual(read_shown("[a]b" * 12), ("ab" * 12, list(range(0, 24, 2))))
        self.check_refused("a" * 25)
        self.check_refused("[" + "a" * 25 + "]")
        self.check_refused("[a]b" * 12 + "c")

    def test_what_each_short_text_shows(self):
        expected = {}
        for name in words("aB_", 5):
            if name:
                for places in all_places(name):
                    expected[plain_shown(name, places)] = (name, places)
        for text in words("aB_[] ", 5):
            if text in expected:
                self.assertEqual(read_shown(text), expected[text], text)
            else:
                self.check_refused(text)
        for text in words("a[]", 9):
            try:
                name, places = read_shown(text)
            except NoText:
                self.assertNotRegex(text, r"\A(a|\[a+\](?!\[))+\Z")
            else:
                self.assertRegex(text, r"\A(a|\[a+\](?!\[))+\Z")
                self.assertEqual(plain_shown(name, places), text)


class BackAgain(unittest.TestCase):
    def test_all_places_read_back(self):
        for name in ("a", "aB", "a_b", "a-b.C", "aaaaaa", "ab/01_Cd", "few_find.p"):
            for places in all_places(name):
                self.assertEqual(read_shown(shown(name, places)), (name, places))

    def test_layings_read_back(self):
        for name in SHORT_NAMES[:600]:
            for query in SHORT_QUERIES:
                for laying in all_layings(query, name):
                    self.assertEqual(read_shown(shown(name, laying)), (name, laying))
        for name in LONG_NAMES:
            for query in LONG_QUERIES:
                told = best(query, name)
                if told is not None:
                    self.assertEqual(read_shown(shown(name, told[1])), (name, told[1]))


class NewEachTime(unittest.TestCase):
    def test_told_lists_may_be_changed(self):
        for tell in (lambda: runs("abcd", [0, 1, 3]), lambda: read_shown("[ab]c[d]")[1], lambda: runs("a", [])):
            check_new_each_time(self, tell)

    def test_what_is_handed_in_stays_as_it_was(self):
        places = [0, 1, 3]
        told = runs("abcd", places)
        self.assertEqual(shown("abcd", places), "[ab]c[d]")
        self.assertEqual(places, [0, 1, 3])
        places.append(9)
        self.assertEqual(told, [(0, 2), (3, 1)])
        for tell in (runs, shown):
            with self.assertRaises(NoLaying):
                tell("abcd", places)
        self.assertEqual(places, [0, 1, 3, 9])

    def test_kinds(self):
        self.assertIs(type(runs("a", [])), list)
        self.assertIs(type(runs("a", [0])[0]), tuple)
        self.assertIs(type(read_shown("a")), tuple)
        self.assertIs(type(read_shown("[a]")[1]), list)


if __name__ == "__main__":
    unittest.main()
