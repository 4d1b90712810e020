import random
import re
import unittest

from fewfind.errors import NoText
from fewfind.writing import read, written
from plain import LONG_NAMES, NAME_LISTS, words
from steps import check_new_each_time

LINE = re.compile(r"(0|[1-9][0-9]{0,5}) ([A-Za-z0-9_./-]{1,24})\n")
LONGEST = "abcdefghijklmnopqrstuvwx"
NO_TEXTS = [
    # The last line feed is not there.
    "1 a", "0 a", "1 a\n2 b", "1 a\n2 b\n3 c", "a", "1", " ",
    # Lines without signs.
    "\n", "\n\n", "1 a\n\n", "\n1 a\n", "1 a\n\n2 b\n",
    # No blank, and too many.
    "1a\n", "1\n", "a\n", "1 a\n2\n", "1  a\n", " 1 a\n", "1 a \n", "1 a b\n", " 1  a\n", "1 a\n 2 b\n", "  \n", " \n",
    # No count, no name.
    " a\n", "1 \n", "0 \n", "1 a\n2 \n", "1 a\n b\n", "a 1\n", "a b\n", "1 2 3\n",
    # Noughts ahead.
    "00 a\n", "01 a\n", "007 a\n", "000000 a\n", "0000001 a\n", "000123 a\n",
    # Signs ahead, and others in a count.
    "-1 a\n", "+1 a\n", "-0 a\n", "+0 a\n", "1. a\n", "1.0 a\n", "1_0 a\n", "1e3 a\n", "0x1 a\n", "x1 a\n", "1x a\n",
    # More than 6 figures.
    "1000000 a\n", "9999999 a\n", "1234567 a\n", "12345678901234567890 a\n",
    # What is no name.
    "1 a:b\n", "1 ~\n", "1 [a]\n", "1 a,\n", "1 (\n", "1 a=b\n", "1 " + LONGEST + "y\n", "1 " + "a" * 40 + "\n",
    "1 a\n1 ?\n",
]


class Written(unittest.TestCase):
    def test_no_rows(self):
        self.assertEqual(written([]), "")

    def test_one_row(self):
        self.assertEqual(written([("few_find", 3)]), "3 few_find\n")
        self.assertEqual(written([("a", 0)]), "0 a\n")

    def test_several_rows_in_their_order(self):
        self.assertEqual(written([("b", 2), ("a", 10), ("A.b-c/d_e9", 0)]), "2 b\n10 a\n0 A.b-c/d_e9\n")

    def test_names_that_are_alike(self):
        self.assertEqual(written([("a", 1), ("a", 1), ("a", 2)]), "1 a\n1 a\n2 a\n")

    def test_great_counts(self):
        self.assertEqual(written([("a", 999999)]), "999999 a\n")
        self.assertEqual(written([("a", 1000000), ("b", 10**20)]), "1000000 a\n100000000000000000000 b\n")

    def test_a_name_of_figures(self):
        self.assertEqual(written([("12", 3)]), "3 12\n")

    def test_rows_stay_as_they_were(self):
        rows = [("a", 1), ("b", 2)]
        text = written(rows)
        self.assertEqual(rows, [("a", 1), ("b", 2)])
        rows.clear()
        self.assertEqual(text, "1 a\n2 b\n")


class Read(unittest.TestCase):
    def test_the_text_without_signs(self):
        self.assertEqual(read(""), [])

    def test_one_line_and_several(self):
        self.assertEqual(read("3 few_find\n"), [("few_find", 3)])
        self.assertEqual(read("2 b\n10 a\n0 A.b-c/d_e9\n"), [("b", 2), ("a", 10), ("A.b-c/d_e9", 0)])

    def test_names_that_are_alike(self):
        self.assertEqual(read("1 a\n1 a\n2 a\n"), [("a", 1), ("a", 1), ("a", 2)])

    def test_counts_up_to_six_figures(self):
        for count in (0, 1, 9, 10, 99, 100, 1000, 99999, 100000, 999999):
            self.assertEqual(read(f"{count} a\n"), [("a", count)])

    def test_names_up_to_24_signs(self):
        self.assertEqual(read(f"1 {LONGEST}\n"), [(LONGEST, 1)])

    def test_names_of_figures_and_marks(self):
        self.assertEqual(read("3 12\n0 0\n1 00\n2 -1\n7 _\n"), [("12", 3), ("0", 0), ("00", 1), ("-1", 2), ("_", 7)])

    def test_no_texts(self):
        for text in NO_TEXTS:
            with self.assertRaises(NoText, msg=text):
                read(text)

    def test_each_sign_in_each_part(self):
        for sign in map(chr, [10] + list(range(32, 127))):
            for text in (f"{sign} a\n", f"1{sign} a\n", f"{sign}1 a\n", f"1 {sign}\n", f"1 a{sign}\n", f"1{sign}a\n"):
                self.check(text)
            self.check(f"1 a{sign}")
            self.check(f"1 a\n{sign}")

    def check(self, text):
        if re.fullmatch(f"({LINE.pattern})*", text):
            expected = [(name, int(count)) for count, name in LINE.findall(text)]
            self.assertEqual(read(text), expected, repr(text))
            self.assertEqual(written(expected), text)
        else:
            with self.assertRaises(NoText, msg=repr(text)):
                read(text)

    def test_all_short_texts(self):
        for text in words("10a_ \n", 6):
            self.check(text)

    def test_texts_with_one_sign_changed(self):
        choices = random.Random(12)
        base = "12 few_find\n0 a\n999999 " + LONGEST + "\n7 7\n"
        for row in range(4000):
            place = choices.randrange(len(base))
            sign = choices.choice(["", " ", "\n", "0", "1", "a", "-", ":", "  ", "\n\n"])
            self.check(base[:place] + sign + base[place + choices.randrange(2):])


class BackAgain(unittest.TestCase):
    def test_what_is_written_is_read(self):
        choices = random.Random(13)
        for names in NAME_LISTS:
            rows = [(name, choices.choice([0, 1, 7, 10, 999999, choices.randrange(10**6)])) for name in names]
            for length in range(0, len(rows) + 1, 3):
                self.assertEqual(read(written(rows[:length])), rows[:length])
            self.assertEqual(read(written(rows)), rows)

    def test_what_is_read_is_written(self):
        for text in ("", "1 a\n", "0 a\n0 a\n", "999999 " + LONGEST + "\n"):
            self.assertEqual(written(read(text)), text)


class NewEachTime(unittest.TestCase):
    def test_told_lists_may_be_changed(self):
        for text in ("", "1 a\n", "1 a\n2 b\n"):
            check_new_each_time(self, lambda: read(text))

    def test_kinds(self):
        self.assertIs(type(written([])), str)
        told = read("1 " + LONG_NAMES[0] + "\n")
        self.assertIs(type(told), list)
        self.assertIs(type(told[0]), tuple)
        self.assertIs(type(told[0][0]), str)
        self.assertIs(type(told[0][1]), int)


if __name__ == "__main__":
    unittest.main()
