import itertools
import random
import unittest

from fewfind.errors import NoNumber
from fewfind.finding import finds
from fewfind.pages import Pager
from plain import NAME_LISTS, plain_found
from steps import check_new_each_time, told

# Without signs found as 4, 0, 1, 2, 3; by f as 0, 1, 2, 3; by F as 2.
NAMES = ["find", "few4", "Fox12", "xfinds", "x"]
GREAT_NUMBERS = [10**6, 10**18, 10**30]


class PlainPager:
    """Says what a pager must tell, by finding all anew each time."""

    def __init__(self, names, size):
        self.names = list(names)
        self.size = size
        self.query = ""
        self.number = None

    def rows(self):
        return plain_found(self.names, self.query)

    def place(self):
        numbers = [row[1] for row in self.rows()]
        return numbers.index(self.number) if self.number in numbers else 0

    def sheets(self):
        sheets = []
        for row in self.rows():
            if not sheets or len(sheets[-1]) == self.size:
                sheets.append([])
            sheets[-1].append(row)
        return sheets

    def sheet_at(self):
        for number, sheet in enumerate(self.sheets()):
            if self.pointed() in sheet:
                return number
        return 0

    def ask(self, query):
        before = self.pointed()
        self.number = None if before is None else before[1]
        self.query = query

    def pointed(self):
        return self.rows()[self.place()] if self.rows() else None

    def move(self, by):
        if not self.rows():
            return NoNumber
        turned = self.rows()[self.place():] + self.rows()[:self.place()]
        self.number = turned[by % len(turned)][1]
        return self.pointed()

    def page(self):
        return self.sheets()[self.sheet_at()] if self.rows() else []

    def pages(self):
        return len(self.sheets())

    def turn(self, by):
        number = self.sheet_at() + by
        if number not in range(len(self.sheets())):
            return NoNumber
        self.number = self.sheets()[number][0][1]
        return self.sheets()[number]


def state(pager):
    return (pager.pointed(), pager.page(), pager.pages())


def asked_pager(names, size, query):
    pager = Pager(names, size)
    pager.ask(query)
    return pager


class Begins(unittest.TestCase):
    def test_with_all_names_and_the_first_row(self):
        pager = Pager(NAMES, 2)
        self.assertEqual(pager.pointed(), (0, 4))
        self.assertEqual(pager.page(), [(0, 4), (0, 0)])
        self.assertEqual(pager.pages(), 3)

    def test_pages_of_all_sizes(self):
        rows = finds(NAMES, "", 9)
        for size, pages in [(1, 5), (2, 3), (3, 2), (4, 2), (5, 1), (6, 1), (99, 1), (10**30, 1)]:
            pager = Pager(NAMES, size)
            self.assertEqual(pager.pages(), pages, size)
            self.assertEqual(pager.page(), rows[:size], size)

    def test_no_names(self):
        for size in (1, 2):
            pager = Pager([], size)
            self.assertEqual(state(pager), (None, [], 0))
            self.assertIsNone(pager.ask("a"))
            self.assertEqual(state(pager), (None, [], 0))
            for step in (("move", 0), ("move", 1), ("turn", 0), ("turn", 1), ("turn", -1)):
                self.assertIs(told(pager, step), NoNumber, step)

    def test_a_size_below_one_is_one(self):
        for size in (0, -1):
            self.assertEqual(state(Pager(NAMES, size)), ((0, 4), [(0, 4)], 5))

    def test_names_that_are_alike(self):
        pager = Pager(["a", "a", "a"], 2)
        self.assertEqual([pager.page(), pager.turn(1)], [[(0, 0), (0, 1)], [(0, 2)]])


class Ask(unittest.TestCase):
    def test_ask_tells_none(self):
        pager = Pager(NAMES, 2)
        self.assertIsNone(pager.ask("f"))
        self.assertIsNone(pager.ask("q"))

    def test_all_is_found_anew(self):
        pager = asked_pager(NAMES, 3, "f")
        self.assertEqual(pager.pages(), 2)
        self.assertEqual(pager.page() + pager.turn(1), finds(NAMES, "f", 9))
        pager.ask("F")
        self.assertEqual((pager.page(), pager.pages()), ([(19, 2)], 1))
        pager.ask("")
        self.assertEqual((pager.pages(), pager.turn(-1) + pager.turn(1)), (2, finds(NAMES, "", 9)))

    def test_the_name_pointed_at_is_not_found(self):
        pager = Pager(NAMES, 2)
        self.assertEqual(pager.move(1), (0, 0))
        pager.ask("x")
        self.assertEqual(pager.pointed(), (19, 4))
        pager.move(-1)
        self.assertEqual(pager.pointed(), (9, 2))
        pager.ask("fi")
        self.assertEqual(pager.pointed(), (37, 0))

    def test_the_name_pointed_at_is_found_at_another_place(self):
        pager = Pager(NAMES, 2)
        self.assertEqual(pager.move(3), (0, 2))
        self.assertEqual(pager.page(), [(0, 1), (0, 2)])
        pager.ask("f")
        self.assertEqual(pager.pointed(), (18, 2))
        self.assertEqual(pager.page(), [(18, 2), (10, 3)])
        pager.ask("F")
        self.assertEqual((pager.pointed(), pager.page()), ((19, 2), [(19, 2)]))
        pager.ask("x")
        self.assertEqual((pager.pointed(), pager.page()), ((9, 2), [(9, 2)]))

    def test_the_name_not_the_place_stays(self):
        pager = asked_pager(["a", "ab", "abc"], 1, "a")
        pager.move(1)
        pager.ask("b")
        self.assertEqual(pager.pointed(), (10, 1))
        self.assertEqual(pager.move(1), (10, 2))

    def test_the_number_not_the_name_stays(self):
        pager = asked_pager(["a", "a", "b", "a"], 1, "a")
        self.assertEqual(pager.move(2), (19, 3))
        pager.ask("")
        self.assertEqual(pager.pointed(), (0, 3))

    def test_the_first_number_stays(self):
        pager = Pager(["xa", "a", "b"], 2)
        self.assertEqual(pager.move(2), (0, 0))
        pager.ask("a")
        self.assertEqual(pager.pointed(), (10, 0))

    def test_nothing_found_and_something_again(self):
        pager = Pager(NAMES, 2)
        pager.move(2)
        pager.ask("q")
        self.assertEqual(state(pager), (None, [], 0))
        pager.ask("qq")
        self.assertEqual(state(pager), (None, [], 0))
        pager.ask("")
        self.assertEqual(state(pager), ((0, 4), [(0, 4), (0, 0)], 3))

    def test_the_same_query_again(self):
        pager = asked_pager(NAMES, 2, "f")
        pager.move(3)
        before = state(pager)
        pager.ask("f")
        self.assertEqual(state(pager), before)


class Move(unittest.TestCase):
    def test_one_by_one_around(self):
        pager = Pager(NAMES, 2)
        rows = finds(NAMES, "", 9)
        self.assertEqual([pager.move(1) for row in range(6)], rows[1:] + rows[:2])
        self.assertEqual([pager.move(-1) for row in range(6)], [rows[0]] + rows[::-1])

    def test_by_none(self):
        pager = Pager(NAMES, 2)
        self.assertEqual(pager.move(0), (0, 4))
        pager.move(3)
        self.assertEqual(pager.move(0), (0, 2))

    def test_by_all_numbers(self):
        rows = finds(NAMES, "", 9)
        for start in range(5):
            for by in list(range(-12, 13)) + GREAT_NUMBERS + [-by for by in GREAT_NUMBERS]:
                pager = Pager(NAMES, 2)
                pager.move(start)
                expected = rows[(start + by) % 5]
                self.assertEqual(pager.move(by), expected, (start, by))
                self.assertEqual(pager.pointed(), expected, (start, by))
                self.assertIn(expected, pager.page())

    def test_one_row(self):
        pager = asked_pager(NAMES, 2, "F")
        for by in (0, 1, -1, 7, 10**18):
            self.assertEqual(pager.move(by), (19, 2))

    def test_the_page_goes_along(self):
        pager = Pager(NAMES, 2)
        pages = [[(0, 4), (0, 0)], [(0, 1), (0, 2)], [(0, 3)]]
        for place in (0, 1, 2, 3, 4, 0):
            self.assertEqual(pager.page(), pages[place // 2])
            pager.move(1)

    def test_nothing_found(self):
        pager = asked_pager(NAMES, 2, "q")
        for by in (0, 1, -1, 5):
            self.assertIs(told(pager, ("move", by)), NoNumber)
            self.assertEqual(state(pager), (None, [], 0))


class Turn(unittest.TestCase):
    PAGES = [[(0, 4), (0, 0)], [(0, 1), (0, 2)], [(0, 3)]]

    def test_to_each_page_from_each_row(self):
        for start in range(5):
            for by in range(-5, 6):
                pager = Pager(NAMES, 2)
                pager.move(start)
                before = state(pager)
                number = start // 2 + by
                if 0 <= number < 3:
                    self.assertEqual(pager.turn(by), self.PAGES[number], (start, by))
                    self.assertEqual(state(pager), (self.PAGES[number][0], self.PAGES[number], 3), (start, by))
                else:
                    self.assertIs(told(pager, ("turn", by)), NoNumber, (start, by))
                    self.assertEqual(state(pager), before, (start, by))

    def test_by_none_points_at_the_first_row_of_the_page(self):
        pager = Pager(NAMES, 2)
        pager.move(3)
        self.assertEqual(pager.turn(0), [(0, 1), (0, 2)])
        self.assertEqual(pager.pointed(), (0, 1))

    def test_very_great_numbers(self):
        pager = Pager(NAMES, 2)
        pager.move(3)
        before = state(pager)
        for by in GREAT_NUMBERS + [-by for by in GREAT_NUMBERS]:
            self.assertIs(told(pager, ("turn", by)), NoNumber)
            self.assertEqual(state(pager), before)

    def test_a_last_page_that_is_full(self):
        pager = asked_pager(NAMES, 2, "f")
        self.assertEqual(pager.pages(), 2)
        self.assertEqual(pager.turn(1), [(18, 2), (10, 3)])
        self.assertIs(told(pager, ("turn", 1)), NoNumber)

    def test_pages_of_one_row(self):
        pager = Pager(NAMES, 1)
        self.assertEqual([pager.turn(1) for page in range(4)], [[(0, 0)], [(0, 1)], [(0, 2)], [(0, 3)]])
        self.assertIs(told(pager, ("turn", 1)), NoNumber)
        self.assertEqual(pager.turn(-4), [(0, 4)])

    def test_nothing_found(self):
        pager = asked_pager(NAMES, 2, "q")
        for by in (0, 1, -1, 5):
            self.assertIs(told(pager, ("turn", by)), NoNumber)
            self.assertEqual(state(pager), (None, [], 0))


class ManyOrders(unittest.TestCase):
    def check(self, names, size, steps):
        pager, plain = Pager(names, size), PlainPager(names, size)
        for number, step in enumerate(steps):
            self.assertEqual(told(pager, step), told(plain, step), (names, size, steps[: number + 1]))
            self.assertEqual(state(pager), state(plain), (names, size, steps[: number + 1]))

    def test_all_orders_of_few_steps(self):
        steps = [("ask", "a"), ("ask", "q"), ("ask", ""), ("move", 1), ("move", -2), ("turn", 1), ("turn", -1)]
        for chosen in itertools.product(steps, repeat=4):
            self.check(["ab", "xa", "b", "a_b"], 2, chosen)

    def test_long_rows_of_steps(self):
        choices = random.Random(11)
        for row in range(150):
            names = choices.choice(NAME_LISTS)[:12]
            size = choices.choice([1, 1, 2, 3, 4, 5, 12, 13, 50])
            steps = []
            for step in range(choices.randrange(5, 30)):
                kind = choices.choice(["ask", "move", "move", "turn", "turn"])
                if kind == "ask":
                    steps.append((kind, choices.choice(["", "", "a", "b", "ab", "A", "f", "ff", "fi", "s", "q"])))
                else:
                    steps.append((kind, choices.choice([0, 1, 1, 1, -1, -1, 2, -2, 3, 7, -12, 10**9])))
            self.check(names, size, steps)


class EachByItself(unittest.TestCase):
    def test_two_pagers_leave_one_another_as_they_were(self):
        names = list(NAMES)
        one, other = Pager(names, 2), Pager(names, 2)
        before = state(other)
        one.ask("f")
        one.move(2)
        one.turn(0)
        self.assertEqual(state(other), before)
        other.move(1)
        other.turn(1)
        self.assertEqual(one.pointed(), (18, 2))
        self.assertEqual(other.pointed(), (0, 1))
        self.assertEqual(names, NAMES)

    def test_names_changed_behind_it(self):
        names = list(NAMES)
        pager = Pager(names, 2)
        before = state(pager)
        names[0] = "q"
        names.append("f")
        self.assertEqual(state(pager), before)
        pager.ask("f")
        self.assertEqual(pager.page() + pager.turn(1), finds(NAMES, "f", 9))
        names.clear()
        pager.ask("")
        self.assertEqual((pager.pages(), pager.turn(-1)), (3, [(0, 4), (0, 0)]))
        self.assertEqual(names, [])

    def test_told_lists_may_be_changed(self):
        pager = Pager(NAMES, 2)
        pager.move(2)
        before = state(pager)
        for tell in (pager.page, lambda: pager.turn(0)):
            check_new_each_time(self, tell)
            self.assertEqual(state(pager), before)
        pager.ask("q")
        check_new_each_time(self, pager.page)
        self.assertEqual(state(pager), (None, [], 0))

    def test_told_tuples_are_new(self):
        pager = Pager(NAMES, 2)
        self.assertIsNot(pager.pointed(), pager.pointed())
        self.assertIsNot(pager.move(0), pager.move(0))
        self.assertIsNot(pager.page()[0], pager.page()[0])

    def test_kinds(self):
        pager = Pager(NAMES, 2)
        self.assertIs(type(pager.pointed()), tuple)
        self.assertIs(type(pager.move(1)), tuple)
        self.assertIs(type(pager.page()), list)
        self.assertIs(type(pager.page()[0]), tuple)
        self.assertIs(type(pager.turn(0)), list)
        self.assertIs(type(pager.pages()), int)


if __name__ == "__main__":
    unittest.main()
