import itertools
import random
import unittest

from fewfind.choosing import Chooser
from fewfind.errors import NoNumber
from fewfind.finding import finds
from plain import NAME_LISTS, plain_order, plain_rows
from steps import check_new_each_time, told

# With the query f: 19 points of 0 and 1, 18 of 2, 10 of 3, none of 4.
NAMES = ["few", "find", "Fox", "xf", "x"]
NO_NUMBERS = [-1, -2, -5, 5, 6, 99]


class PlainChooser:
    """Says what a chooser must tell, by going through all that was done."""

    def __init__(self, names):
        self.names = list(names)
        self.done = []

    def number(self, kind, number):
        if number not in range(len(self.names)):
            return NoNumber
        self.done.append((kind, number))

    def pick(self, number):
        return self.number("pick", number)

    def forget(self, number):
        return self.number("forget", number)

    def since_forgotten(self, number):
        kinds = [kind for kind, other in self.done if other == number]
        return list(itertools.takewhile(lambda kind: kind == "pick", kinds[::-1]))

    def picked(self, number):
        if number not in range(len(self.names)):
            return NoNumber
        return len(self.since_forgotten(number))

    def is_last(self, number):
        numbers = [other for kind, other in self.done if kind == "pick"]
        return numbers[-1:] == [number] and self.picked(number) > 0

    def found(self, query, many):
        rows = []
        for counted, number in plain_rows(self.names, query):
            more = (0, 2, 4, 6, 8, 10)[min(self.picked(number), 5)]
            rows.append((counted + more + (3 if self.is_last(number) else 0), number))
        return plain_order(self.names, rows)[:many]

    def usual(self, many):
        rows = [(number, self.picked(number)) for number in range(len(self.names)) if self.picked(number)]
        rows.sort(key=lambda row: row[1], reverse=True)
        return rows[:many]


def state(chooser, many_names):
    found = [chooser.found(query, 99) for query in ("", "f", "a", "ab", "q")]
    return ([chooser.picked(number) for number in range(many_names)], chooser.usual(99), found)


def picked_chooser(names, numbers):
    chooser = Chooser(names)
    for number in numbers:
        chooser.pick(number)
    return chooser


class Picks(unittest.TestCase):
    def test_begins_without_picks(self):
        chooser = Chooser(NAMES)
        self.assertEqual([chooser.picked(number) for number in range(5)], [0, 0, 0, 0, 0])
        self.assertEqual(chooser.usual(9), [])
        for query in ("", "f", "fx", "q"):
            self.assertEqual(chooser.found(query, 9), finds(NAMES, query, 9))

    def test_pick_counts(self):
        chooser = Chooser(NAMES)
        for count in range(1, 9):
            self.assertIsNone(chooser.pick(2))
            self.assertEqual([chooser.picked(number) for number in range(5)], [0, 0, count, 0, 0])

    def test_forget(self):
        chooser = picked_chooser(NAMES, [2, 0, 2])
        self.assertIsNone(chooser.forget(2))
        self.assertEqual([chooser.picked(number) for number in range(5)], [1, 0, 0, 0, 0])
        self.assertIsNone(chooser.forget(2))
        self.assertIsNone(chooser.forget(4))
        chooser.pick(2)
        self.assertEqual([chooser.picked(number) for number in range(5)], [1, 0, 1, 0, 0])

    def test_names_that_are_alike_are_picked_each_by_itself(self):
        chooser = picked_chooser(["a", "a"], [1, 1])
        self.assertEqual((chooser.picked(0), chooser.picked(1)), (0, 2))
        self.assertEqual(chooser.found("a", 9), [(19 + 4 + 3, 1), (19, 0)])

    def test_a_name_that_does_not_fit_is_picked_too(self):
        chooser = picked_chooser(NAMES, [4])
        self.assertEqual(chooser.found("f", 9), finds(NAMES, "f", 9))
        self.assertEqual(chooser.found("x", 9), [(24, 4), (19, 3), (9, 2)])


class Refusals(unittest.TestCase):
    def test_no_such_number(self):
        chooser = picked_chooser(NAMES, [0, 2, 2])
        before = state(chooser, 5)
        for number in NO_NUMBERS:
            for kind in ("pick", "forget", "picked"):
                self.assertIs(told(chooser, (kind, number)), NoNumber, (kind, number))
                self.assertEqual(state(chooser, 5), before, (kind, number))

    def test_no_number_where_there_are_no_names(self):
        chooser = Chooser([])
        for number in (-1, 0, 1):
            for kind in ("pick", "forget", "picked"):
                self.assertIs(told(chooser, (kind, number)), NoNumber, (kind, number))
        self.assertEqual((chooser.found("", 9), chooser.usual(9)), ([], []))


class Found(unittest.TestCase):
    def test_each_pick_counts_two_more_up_to_five(self):
        chooser = Chooser(["xa", "a"])
        counted = []
        for count in range(7):
            chooser.pick(0)
            chooser.pick(1)
            counted.append(dict((number, points) for points, number in chooser.found("a", 9))[0])
        self.assertEqual(counted, [12, 14, 16, 18, 20, 20, 20])

    def test_the_name_picked_last_counts_three_more(self):
        chooser = Chooser(NAMES)
        counted = []
        for count in range(7):
            chooser.pick(3)
            counted.append(dict((number, points) for points, number in chooser.found("f", 9))[3])
        self.assertEqual(counted, [15, 17, 19, 21, 23, 23, 23])

    def test_the_three_more_go_to_the_next_one_picked(self):
        chooser = picked_chooser(NAMES, [0])
        self.assertEqual(chooser.found("f", 9), [(24, 0), (19, 1), (18, 2), (10, 3)])
        chooser.pick(1)
        self.assertEqual(chooser.found("f", 9), [(24, 1), (21, 0), (18, 2), (10, 3)])
        chooser.pick(4)
        self.assertEqual(chooser.found("f", 9), [(21, 0), (21, 1), (18, 2), (10, 3)])

    def test_the_three_more_are_gone_when_the_name_is_forgotten(self):
        chooser = picked_chooser(NAMES, [0, 1])
        chooser.forget(1)
        self.assertEqual(chooser.found("f", 9), [(21, 0), (19, 1), (18, 2), (10, 3)])
        chooser.pick(0)
        chooser.forget(0)
        self.assertEqual(chooser.found("f", 9), finds(NAMES, "f", 9))

    def test_forgetting_another_one_leaves_the_three_more(self):
        chooser = picked_chooser(NAMES, [0, 1])
        chooser.forget(0)
        self.assertEqual(chooser.found("f", 9), [(24, 1), (19, 0), (18, 2), (10, 3)])
        chooser.forget(4)
        self.assertEqual(chooser.found("f", 9), [(24, 1), (19, 0), (18, 2), (10, 3)])

    def test_the_first_number_is_none_of_none(self):
        chooser = picked_chooser(NAMES, [1])
        chooser.forget(1)
        self.assertEqual(chooser.found("f", 9), [(19, 0), (19, 1), (18, 2), (10, 3)])

    def test_order_by_points_then_lengths_then_numbers(self):
        chooser = picked_chooser(["abc", "ab", "xa", "ab"], [0, 1, 3, 2])
        self.assertEqual(chooser.found("a", 9), [(21, 1), (21, 3), (21, 0), (15, 2)])

    def test_the_query_without_signs(self):
        chooser = picked_chooser(NAMES, [1, 3])
        self.assertEqual(chooser.found("", 9), [(5, 3), (2, 1), (0, 4), (0, 0), (0, 2)])

    def test_how_many(self):
        chooser = picked_chooser(NAMES, [3, 3, 2])
        found = [(23, 2), (19, 0), (19, 1), (14, 3)]
        for many in range(7):
            self.assertEqual(chooser.found("f", many), found[:many], many)
        self.assertEqual(chooser.found("f", -1), [])

    def test_picks_stay_behind_found(self):
        chooser = picked_chooser(NAMES, [3, 2])
        before = state(chooser, 5)
        chooser.found("f", 2)
        chooser.usual(2)
        self.assertEqual(state(chooser, 5), before)


class Usual(unittest.TestCase):
    def test_more_picks_first_then_lesser_numbers(self):
        chooser = picked_chooser(NAMES, [4, 2, 3, 2, 0])
        self.assertEqual(chooser.usual(9), [(2, 2), (0, 1), (3, 1), (4, 1)])

    def test_more_than_five_picks_are_told_as_they_are(self):
        chooser = picked_chooser(NAMES, [0] * 6 + [1] * 7 + [2] * 5)
        self.assertEqual(chooser.usual(9), [(1, 7), (0, 6), (2, 5)])

    def test_a_name_picked_last_is_not_ahead(self):
        self.assertEqual(picked_chooser(NAMES, [0, 0, 1]).usual(9), [(0, 2), (1, 1)])
        self.assertEqual(picked_chooser(NAMES, [0, 1]).usual(9), [(0, 1), (1, 1)])

    def test_names_forgotten(self):
        chooser = picked_chooser(NAMES, [0, 0, 1, 2])
        chooser.forget(0)
        self.assertEqual(chooser.usual(9), [(1, 1), (2, 1)])
        chooser.pick(0)
        self.assertEqual(chooser.usual(9), [(0, 1), (1, 1), (2, 1)])

    def test_lengths_do_not_count(self):
        self.assertEqual(picked_chooser(["abc", "ab", "a"], [2, 1, 0]).usual(9), [(0, 1), (1, 1), (2, 1)])

    def test_numbers_are_no_texts(self):
        chooser = picked_chooser(["a"] * 12, list(range(12)) + [10] * 10)
        self.assertEqual(chooser.usual(4), [(10, 11), (0, 1), (1, 1), (2, 1)])

    def test_how_many(self):
        chooser = picked_chooser(NAMES, [4, 2, 3, 2])
        usual = [(2, 2), (3, 1), (4, 1)]
        for many in range(6):
            self.assertEqual(chooser.usual(many), usual[:many], many)
        self.assertEqual(chooser.usual(-1), [])


class ManyOrders(unittest.TestCase):
    def check(self, names, steps):
        chooser, plain = Chooser(names), PlainChooser(names)
        for number, step in enumerate(steps):
            self.assertEqual(told(chooser, step), told(plain, step), steps[: number + 1])
        self.assertEqual(state(chooser, len(names)), state(plain, len(names)), steps)

    def test_all_orders_of_few_steps(self):
        steps = [("pick", 0), ("pick", 1), ("pick", 3), ("forget", 0), ("forget", 1), ("forget", -1), ("found", "a", 2)]
        for length in range(5):
            for chosen in itertools.product(steps, repeat=length):
                self.check(["ab", "a", "xab"], chosen)

    def test_long_rows_of_steps(self):
        choices = random.Random(8)
        for row in range(300):
            names = choices.choice(NAME_LISTS)[:8]
            steps = []
            for step in range(choices.randrange(5, 60)):
                kind = choices.choice(["pick"] * 6 + ["forget", "picked", "found", "usual"])
                if kind == "found":
                    steps.append((kind, choices.choice(["", "a", "ab", "f", "F", "aA", "q"]), choices.randrange(10)))
                elif kind == "usual":
                    steps.append((kind, choices.randrange(10)))
                else:
                    steps.append((kind, choices.choice([0, 0, 0, 1, 1, 2, 3, 4, 5, 6, 7, 8, -1])))
            self.check(names, steps)


class EachByItself(unittest.TestCase):
    def test_two_choosers_leave_one_another_as_they_were(self):
        names = list(NAMES)
        one, other = Chooser(names), Chooser(names)
        before = state(other, 5)
        one.pick(0)
        one.pick(3)
        self.assertEqual(state(other, 5), before)
        other.pick(1)
        self.assertEqual(one.usual(9), [(0, 1), (3, 1)])
        self.assertEqual(one.found("f", 9), [(21, 0), (19, 1), (18, 2), (15, 3)])
        other.forget(0)
        self.assertEqual((one.picked(0), other.picked(0), one.picked(1), other.picked(1)), (1, 0, 0, 1))
        self.assertEqual(names, NAMES)

    def test_names_changed_behind_it(self):
        names = list(NAMES)
        chooser = picked_chooser(names, [0, 2])
        before = state(chooser, 5)
        names[0] = "q"
        names.append("f")
        self.assertEqual(state(chooser, 5), before)
        self.assertIs(told(chooser, ("pick", 5)), NoNumber)
        names.clear()
        self.assertEqual(state(chooser, 5), before)
        self.assertIsNone(chooser.pick(4))
        self.assertEqual(names, [])

    def test_told_lists_may_be_changed(self):
        chooser = picked_chooser(NAMES, [0, 2])
        before = state(chooser, 5)
        for tell in (lambda: chooser.found("f", 9), lambda: chooser.found("", 2), lambda: chooser.usual(9)):
            check_new_each_time(self, tell)
            self.assertEqual(state(chooser, 5), before)

    def test_kinds(self):
        chooser = picked_chooser(NAMES, [0])
        for told_list in (chooser.found("f", 9), chooser.usual(9)):
            self.assertIs(type(told_list), list)
            self.assertIs(type(told_list[0]), tuple)
        self.assertIs(type(chooser.picked(0)), int)


if __name__ == "__main__":
    unittest.main()
