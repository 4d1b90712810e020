import itertools
import random
import unittest

from fewfind.errors import NoLetter, NoNumber
from fewfind.finding import finds
from fewfind.names import is_query
from fewfind.seekers import Seeker
from plain import NAME_LISTS, all_layings, plain_found
from steps import check_new_each_time, told

NAMES = ["few_find", "fewFind", "Fox", "find", "xf", "f"]
NO_SIGNS = ["", "ff", "fi", "_", "-", ".", "/", " ", "[", "~", "\n", "a ", "\u00e9", "\u0660", "\u017f"]


class PlainSeeker:
    """Says what a seeker must tell, by looking at all names anew each time."""

    def __init__(self, names):
        self.names = list(names)
        self.hidden = set()
        self.query = ""
        self.looks = 0

    def numbers(self, query):
        return [
            number for number, name in enumerate(self.names)
            if number not in self.hidden and all_layings(query, name)
        ]

    def letter(self, sign):
        if len(sign) != 1 or not is_query(self.query + sign):
            return NoLetter
        self.looks += len(self.numbers(self.query))
        self.query += sign
        return len(self.numbers(self.query))

    def back(self):
        if not self.query:
            return NoLetter
        self.query = self.query[:-1]
        return len(self.numbers(self.query))

    def add(self, name):
        self.names.append(name)
        for length in range(1, len(self.query) + 1):
            self.looks += 1
            if not all_layings(self.query[:length], name):
                break
        return len(self.names) - 1

    def hide(self, number):
        if number not in range(len(self.names)) or number in self.hidden:
            return NoNumber
        self.hidden.add(number)

    def state(self):
        fitting = self.numbers(self.query)
        found = [row for row in plain_found(self.names, self.query) if row[1] in fitting]
        return (self.query, fitting, [], found[:1], found[:2], found, self.looks)


def state(seeker):
    many = [seeker.now(many) for many in (0, 1, 2, 999)]
    return (seeker.typed(), seeker.fitting(), *many, seeker.looked())


def typed_seeker(names, query):
    seeker = Seeker(names)
    for sign in query:
        seeker.letter(sign)
    return seeker


class Letters(unittest.TestCase):
    def test_begins_without_signs(self):
        seeker = Seeker(NAMES)
        self.assertEqual(seeker.typed(), "")
        self.assertEqual(seeker.fitting(), [0, 1, 2, 3, 4, 5])
        self.assertEqual(seeker.now(9), finds(NAMES, "", 9))
        self.assertEqual(seeker.looked(), 0)

    def test_letter_tells_how_many_fit(self):
        seeker = Seeker(NAMES)
        self.assertEqual([seeker.letter(sign) for sign in "fFd"], [6, 1, 1])
        self.assertEqual(seeker.typed(), "fFd")
        self.assertEqual(seeker.fitting(), [1])
        self.assertEqual(seeker.letter("q"), 0)
        self.assertEqual(seeker.letter("f"), 0)
        self.assertEqual(seeker.typed(), "fFdqf")
        self.assertEqual(seeker.fitting(), [])
        self.assertEqual(seeker.now(9), [])

    def test_a_figure_and_a_great_letter_are_letters(self):
        seeker = Seeker(["a0B9Z", "a1b"])
        self.assertEqual([seeker.letter(sign) for sign in "0B9Z"], [1, 1, 1, 1])

    def test_every_sign_of_a_query_is_a_letter(self):
        for number in range(128):
            sign = chr(number)
            seeker = Seeker(NAMES)
            if sign.isalnum():
                seeker.letter(sign)
                self.assertEqual(seeker.typed(), sign)
            else:
                with self.assertRaises(NoLetter, msg=sign):
                    seeker.letter(sign)

    def test_back_tells_how_many_fit(self):
        seeker = typed_seeker(NAMES, "fwq")
        self.assertEqual(seeker.fitting(), [])
        self.assertEqual(seeker.back(), 2)
        self.assertEqual((seeker.typed(), seeker.fitting()), ("fw", [0, 1]))
        self.assertEqual(seeker.back(), 6)
        self.assertEqual((seeker.typed(), seeker.fitting()), ("f", [0, 1, 2, 3, 4, 5]))
        self.assertEqual(seeker.letter("x"), 1)
        self.assertEqual((seeker.typed(), seeker.fitting()), ("fx", [2]))
        self.assertEqual(seeker.back(), 6)
        self.assertEqual(seeker.back(), 6)
        self.assertEqual(seeker.typed(), "")

    def test_now_is_what_finds_tells(self):
        for query in ("", "f", "fi", "fd", "F", "q"):
            seeker = typed_seeker(NAMES, query)
            for many in range(8):
                self.assertEqual(seeker.now(many), finds(NAMES, query, many), (query, many))

    def test_no_names(self):
        seeker = Seeker([])
        self.assertEqual((seeker.fitting(), seeker.now(3)), ([], []))
        self.assertEqual(seeker.letter("a"), 0)
        self.assertEqual(seeker.back(), 0)
        self.assertEqual(seeker.looked(), 0)
        with self.assertRaises(NoNumber):
            seeker.hide(0)

    def test_names_that_are_alike(self):
        seeker = Seeker(["ab", "b", "ab"])
        self.assertEqual(seeker.letter("a"), 2)
        self.assertEqual(seeker.fitting(), [0, 2])
        seeker.hide(0)
        self.assertEqual(seeker.fitting(), [2])
        self.assertEqual(seeker.now(9), [(19, 2)])


class Refusals(unittest.TestCase):
    def check_refused(self, seeker, refusal, step):
        before = state(seeker)
        self.assertEqual(told(seeker, step), refusal, (before, step))
        self.assertEqual(state(seeker), before, step)

    def test_no_letters(self):
        for query in ("", "f", "fi", "q"):
            seeker = typed_seeker(NAMES, query)
            for sign in NO_SIGNS:
                self.check_refused(seeker, NoLetter, ("letter", sign))

    def test_a_ninth_sign(self):
        seeker = typed_seeker(["a" * 24, "b"], "aaaaaaaa")
        self.assertEqual(seeker.typed(), "aaaaaaaa")
        self.assertEqual(seeker.fitting(), [0])
        for sign in ("a", "A", "0", "", "_"):
            self.check_refused(seeker, NoLetter, ("letter", sign))
        self.assertEqual(seeker.back(), 1)
        self.assertEqual(seeker.letter("b"), 0)
        self.check_refused(seeker, NoLetter, ("letter", "b"))

    def test_back_where_nothing_is_typed(self):
        seeker = Seeker(NAMES)
        self.check_refused(seeker, NoLetter, ("back",))
        seeker.letter("f")
        seeker.back()
        self.check_refused(seeker, NoLetter, ("back",))

    def test_hide_of_no_number(self):
        for query in ("", "f", "q"):
            seeker = typed_seeker(NAMES, query)
            for number in (-1, -2, -6, 6, 7, 99):
                self.check_refused(seeker, NoNumber, ("hide", number))

    def test_hide_twice(self):
        for query in ("", "f", "q"):
            seeker = typed_seeker(NAMES, query)
            seeker.hide(2)
            self.check_refused(seeker, NoNumber, ("hide", 2))
            seeker.letter("f")
            self.check_refused(seeker, NoNumber, ("hide", 2))
            seeker.back()
            self.check_refused(seeker, NoNumber, ("hide", 2))

    def test_a_number_is_refused_until_a_name_has_it(self):
        seeker = Seeker(["a"])
        self.check_refused(seeker, NoNumber, ("hide", 1))
        self.assertEqual(seeker.add("ab"), 1)
        self.assertIsNone(seeker.hide(1))
        self.check_refused(seeker, NoNumber, ("hide", 1))

    def test_signs_can_be_taken_back_behind_refusals(self):
        seeker = typed_seeker(NAMES, "fi")
        for step in (("letter", ""), ("letter", "_"), ("letter", "xx"), ("hide", -1), ("hide", 6)):
            self.check_refused(seeker, NoNumber if step[0] == "hide" else NoLetter, step)
        self.assertEqual(seeker.back(), 6)
        self.assertEqual(seeker.typed(), "f")


class AddAndHide(unittest.TestCase):
    def test_add_tells_the_next_number(self):
        seeker = Seeker([])
        self.assertEqual([seeker.add(name) for name in ("a", "b", "a")], [0, 1, 2])
        self.assertEqual(seeker.fitting(), [0, 1, 2])

    def test_a_hidden_name_keeps_its_number(self):
        seeker = Seeker(["a", "b"])
        seeker.hide(1)
        self.assertEqual(seeker.add("c"), 2)
        self.assertEqual(seeker.fitting(), [0, 2])
        seeker.hide(2)
        self.assertEqual(seeker.add("d"), 3)

    def test_a_name_added_while_something_is_typed(self):
        seeker = typed_seeker(["ab", "b"], "abc")
        self.assertEqual(seeker.fitting(), [])
        self.assertEqual([seeker.add(name) for name in ("aBc", "xab", "acb", "cba")], [2, 3, 4, 5])
        self.assertEqual(seeker.fitting(), [2])
        self.assertEqual(seeker.back(), 4)
        self.assertEqual(seeker.fitting(), [0, 2, 3, 4])
        self.assertEqual(seeker.back(), 5)
        self.assertEqual(seeker.fitting(), [0, 2, 3, 4, 5])
        self.assertEqual(seeker.back(), 6)
        self.assertEqual(seeker.fitting(), [0, 1, 2, 3, 4, 5])

    def test_an_added_name_is_found(self):
        seeker = typed_seeker(["xa", "b"], "a")
        seeker.add("a")
        self.assertEqual(seeker.now(9), [(19, 2), (10, 0)])
        seeker.letter("b")
        seeker.add("ab")
        self.assertEqual(seeker.now(9), [(37, 3)])

    def test_hide_tells_none(self):
        seeker = Seeker(NAMES)
        self.assertIsNone(seeker.hide(0))
        self.assertIsNone(seeker.hide(5))
        self.assertEqual(seeker.fitting(), [1, 2, 3, 4])
        self.assertEqual([row[1] for row in seeker.now(9)], [4, 2, 3, 1])

    def test_a_hidden_name_stays_hidden(self):
        seeker = typed_seeker(NAMES, "fi")
        seeker.hide(3)
        self.assertEqual(seeker.fitting(), [0, 1])
        self.assertEqual(seeker.back(), 5)
        self.assertEqual(seeker.fitting(), [0, 1, 2, 4, 5])
        self.assertEqual(seeker.back(), 5)
        self.assertEqual(seeker.letter("f"), 5)
        self.assertEqual(seeker.letter("i"), 2)

    def test_a_name_that_does_not_fit_is_hidden_too(self):
        seeker = typed_seeker(NAMES, "fi")
        self.assertIsNone(seeker.hide(5))
        self.assertEqual(seeker.fitting(), [0, 1, 3])
        self.assertEqual(seeker.back(), 5)
        self.assertEqual(seeker.fitting(), [0, 1, 2, 3, 4])

    def test_a_hidden_name_leaves_one_that_is_alike(self):
        seeker = typed_seeker(["a", "a"], "a")
        seeker.hide(1)
        self.assertEqual(seeker.fitting(), [0])


class Looked(unittest.TestCase):
    def test_letter_looks_at_each_name_that_fitted(self):
        seeker = Seeker(NAMES)
        looks = []
        for sign in "fiq0":
            seeker.letter(sign)
            looks.append(seeker.looked())
        self.assertEqual(looks, [6, 6 + 6, 6 + 6 + 3, 6 + 6 + 3])

    def test_letter_does_not_look_at_hidden_names(self):
        seeker = Seeker(NAMES)
        seeker.hide(0)
        seeker.letter("f")
        self.assertEqual(seeker.looked(), 5)
        seeker.hide(1)
        seeker.letter("i")
        self.assertEqual(seeker.looked(), 5 + 4)

    def test_letter_looks_again_behind_back(self):
        seeker = typed_seeker(NAMES, "fi")
        self.assertEqual(seeker.looked(), 12)
        seeker.back()
        seeker.letter("i")
        self.assertEqual(seeker.looked(), 18)

    def test_add_looks_up_to_the_first_that_does_not_fit(self):
        for name, looks in [("x", 1), ("ax", 2), ("ba", 2), ("abx", 3), ("xabyc", 4), ("abcd", 4), ("abcde", 4)]:
            seeker = typed_seeker([], "abcd")
            self.assertEqual(seeker.looked(), 0)
            seeker.add(name)
            self.assertEqual(seeker.looked(), looks, name)

    def test_add_where_nothing_is_typed_looks_at_nothing(self):
        seeker = Seeker(["a"])
        seeker.add("b")
        self.assertEqual(seeker.looked(), 0)
        seeker.letter("a")
        seeker.back()
        seeker.add("c")
        self.assertEqual(seeker.looked(), 2)

    def test_letter_looks_at_an_added_name(self):
        seeker = typed_seeker([], "a")
        seeker.add("ab")
        seeker.add("b")
        self.assertEqual(seeker.looked(), 2)
        self.assertEqual(seeker.letter("b"), 1)
        self.assertEqual(seeker.looked(), 3)

    def test_the_others_never_look(self):
        seeker = typed_seeker(NAMES, "fi")
        looks = seeker.looked()
        seeker.typed()
        seeker.fitting()
        seeker.now(0)
        seeker.now(9)
        seeker.hide(0)
        seeker.looked()
        seeker.back()
        seeker.now(2)
        seeker.back()
        self.assertEqual(seeker.looked(), looks)

    def test_what_is_refused_is_no_look(self):
        seeker = typed_seeker(NAMES, "fi")
        looks = seeker.looked()
        for step in (("letter", "_"), ("letter", ""), ("letter", "ab"), ("hide", 99)):
            told(seeker, step)
        self.assertEqual(seeker.looked(), looks)


class ManyOrders(unittest.TestCase):
    def check(self, names, steps):
        seeker, plain = Seeker(names), PlainSeeker(names)
        for number, step in enumerate(steps):
            self.assertEqual(told(seeker, step), told(plain, step), steps[: number + 1])
        self.assertEqual(state(seeker), plain.state(), steps)

    def test_all_orders_of_few_steps(self):
        steps = [("letter", "a"), ("letter", "B"), ("letter", "_"), ("back",), ("add", "aB"), ("hide", 0), ("hide", 3)]
        for length in range(5):
            for chosen in itertools.product(steps, repeat=length):
                self.check(["ab", "aB", "ba"], chosen)

    def test_long_rows_of_steps(self):
        choices = random.Random(4)
        for row in range(400):
            names = choices.choice(NAME_LISTS)[:20]
            steps = []
            for step in range(choices.randrange(5, 40)):
                kind = choices.choice(["letter", "letter", "letter", "back", "back", "add", "hide"])
                if kind == "letter":
                    steps.append((kind, choices.choice(["a", "b", "f", "a", "A", "B", "F", "9", "_", "", "ab"])))
                elif kind == "back":
                    steps.append((kind,))
                elif kind == "add":
                    steps.append((kind, choices.choice(["aaAbB", "few_Find", "b9a", "_", "A", "baBABab"])))
                else:
                    steps.append((kind, choices.randrange(-2, 24)))
            self.check(names, steps)

    def test_state_behind_each_step(self):
        names = ["few_find", "fewFind", "ff", "xf", "f"]
        seeker, plain = Seeker(names), PlainSeeker(names)
        steps = [
            ("letter", "f"), ("add", "fif"), ("letter", "f"), ("hide", 4), ("letter", "i"), ("add", "FFi"), ("back",),
            ("letter", ""), ("hide", 4), ("hide", 0), ("back",), ("add", "x"), ("letter", "F"), ("back",), ("back",),
            ("back",), ("hide", 7), ("hide", 8), ("add", "f"), ("letter", "f"), ("letter", "-"), ("letter", "d"),
        ]
        for step in steps:
            self.assertEqual(told(seeker, step), told(plain, step), step)
            self.assertEqual(state(seeker), plain.state(), step)

    def test_going_back_is_as_it_was(self):
        for names in NAME_LISTS:
            seeker = Seeker(names)
            states = []
            for sign in "aAb9ffab":
                states.append(state(seeker)[:-1])
                seeker.letter(sign)
            while states:
                self.assertEqual(seeker.back(), len(states[-1][1]))
                self.assertEqual(state(seeker)[:-1], states.pop())


class EachByItself(unittest.TestCase):
    def test_two_seekers_leave_one_another_as_they_were(self):
        names = ["ab", "b", "aB"]
        one, other = Seeker(names), Seeker(names)
        before = state(other)
        one.letter("a")
        one.add("abc")
        one.hide(0)
        self.assertEqual(state(other), before)
        self.assertEqual(names, ["ab", "b", "aB"])
        other.letter("b")
        self.assertEqual((one.typed(), one.fitting(), one.looked()), ("a", [2, 3], 4))
        self.assertEqual((other.typed(), other.fitting(), other.looked()), ("b", [0, 1, 2], 3))
        self.assertEqual(other.add("x"), 3)
        self.assertEqual(one.add("a"), 4)

    def test_names_changed_behind_it(self):
        names = ["ab", "b", "aB"]
        seeker = typed_seeker(names, "a")
        before = state(seeker)
        names[0] = "x"
        names.append("a")
        self.assertEqual(state(seeker), before)
        names.clear()
        self.assertEqual(state(seeker), before)
        self.assertEqual(seeker.letter("b"), 2)
        self.assertEqual(seeker.back(), 2)
        self.assertEqual(seeker.back(), 3)
        self.assertEqual(seeker.add("b"), 3)
        self.assertEqual(names, [])

    def test_told_lists_may_be_changed(self):
        seeker = typed_seeker(["ab", "b", "aB"], "a")
        before = state(seeker)
        for tell in (seeker.fitting, lambda: seeker.now(9), lambda: seeker.now(1)):
            check_new_each_time(self, tell)
            self.assertEqual(state(seeker), before)
        seeker.back()
        seeker.fitting().append(7)
        self.assertEqual(seeker.fitting(), [0, 1, 2])

    def test_kinds(self):
        seeker = Seeker(["a"])
        self.assertIs(type(seeker.letter("a")), int)
        self.assertIs(type(seeker.looked()), int)
        self.assertIs(type(seeker.typed()), str)
        self.assertIs(type(seeker.fitting()), list)
        self.assertIs(type(seeker.now(1)), list)
        self.assertIs(type(seeker.now(1)[0]), tuple)


if __name__ == "__main__":
    unittest.main()
