import itertools
import random
import unittest

from fewfind.errors import NoNumber
from fewfind.finding import finds
from fewfind.trails import Trail
from plain import NAME_LISTS, plain_found
from steps import check_new_each_time, stepped, told, trail_state as state

# By f found as 1, 0, 2, 3; by fi as 0, 3; by x as 4, 3, 2; without signs as 4, 1, 0, 2, 3.
NAMES = ["find", "few", "Fox12", "xfinds", "x"]


class PlainTrail:
    """Says what a trail must tell, by keeping all that it was behind each step."""

    def __init__(self, names):
        self.names = list(names)
        self.states = [("", [], [])]
        self.at = 0

    def step(self, query, picks, step):
        self.states = self.states[: self.at + 1]
        self.states.append((query, self.chosen() + picks, self.steps() + [step]))
        self.at += 1

    def ask(self, query):
        self.step(query, [], ("ask", query))
        return len(plain_found(self.names, query))

    def pick(self, place):
        found = dict(enumerate(plain_found(self.names, self.asked())))
        if place not in found:
            return NoNumber
        number = found[place][1]
        self.step("", [(self.asked(), number)], ("pick", number))
        return number

    def asked(self):
        return self.states[self.at][0]

    def chosen(self):
        return self.states[self.at][1]

    def steps(self):
        return self.states[self.at][2]

    def back(self):
        if self.at == 0:
            return NoNumber
        self.at -= 1
        return self.states[self.at + 1][2][-1][0]

    def forth(self):
        if self.at == len(self.states) - 1:
            return NoNumber
        self.at += 1
        return self.steps()[-1][0]

    def sizes(self):
        return (self.at, len(self.states) - 1 - self.at)


class AskAndPick(unittest.TestCase):
    def test_begins_without_signs_and_picks(self):
        self.assertEqual(state(Trail(NAMES)), ("", [], [], (0, 0)))
        self.assertEqual(state(Trail([])), ("", [], [], (0, 0)))

    def test_ask_tells_how_many_fit(self):
        trail = Trail(NAMES)
        self.assertEqual([trail.ask(query) for query in ("f", "F", "fi", "x", "q", "")], [4, 1, 2, 3, 0, 5])

    def test_ask_is_the_query_now(self):
        trail = Trail(NAMES)
        steps = []
        for query in ("f", "fi", "q", "", "Fox", "fi", "fi"):
            trail.ask(query)
            steps.append(("ask", query))
            self.assertEqual((trail.asked(), trail.steps(), trail.chosen()), (query, steps, []))

    def test_pick_at_each_place(self):
        for query, numbers in [("f", [1, 0, 2, 3]), ("fi", [0, 3]), ("x", [4, 3, 2]), ("", [4, 1, 0, 2, 3])]:
            self.assertEqual([row[1] for row in finds(NAMES, query, 9)], numbers)
            for place, number in enumerate(numbers):
                trail = Trail(NAMES)
                trail.ask(query)
                self.assertEqual(trail.pick(place), number, (query, place))
                self.assertEqual(trail.chosen(), [(query, number)])
                self.assertEqual(trail.steps(), [("ask", query), ("pick", number)])
                self.assertEqual(trail.asked(), "")

    def test_pick_where_nothing_was_asked(self):
        trail = Trail(NAMES)
        self.assertEqual(trail.pick(2), 0)
        self.assertEqual(state(trail), ("", [("", 0)], [("pick", 0)], (1, 0)))

    def test_the_query_is_that_without_signs_behind_a_pick(self):
        trail = stepped(Trail(NAMES), [("ask", "x"), ("pick", 2)])
        self.assertEqual(trail.asked(), "")
        self.assertEqual(trail.pick(0), 4)
        self.assertEqual(trail.pick(4), 3)
        self.assertEqual(trail.chosen(), [("x", 2), ("", 4), ("", 3)])
        self.assertEqual(trail.steps(), [("ask", "x"), ("pick", 2), ("pick", 4), ("pick", 3)])

    def test_picks_by_the_query_asked_last(self):
        steps = [("ask", "x"), ("ask", "f"), ("pick", 0), ("ask", "q"), ("ask", "fi"), ("pick", 1)]
        trail = stepped(Trail(NAMES), steps)
        self.assertEqual(trail.chosen(), [("f", 1), ("fi", 3)])

    def test_no_row_at_this_place(self):
        for query, many in [("f", 4), ("fi", 2), ("F", 1), ("", 5), ("q", 0)]:
            trail = stepped(Trail(NAMES), [("ask", "x"), ("pick", 0), ("ask", query)])
            before = state(trail)
            for place in (-1, -2, -many, many, many + 1, 99, 10**18, -(10**18)):
                self.assertIs(told(trail, ("pick", place)), NoNumber, (query, place))
                self.assertEqual(state(trail), before, (query, place))

    def test_no_names(self):
        trail = Trail([])
        self.assertIs(told(trail, ("pick", 0)), NoNumber)
        self.assertEqual((trail.ask("a"), trail.ask("")), (0, 0))
        self.assertIs(told(trail, ("pick", 0)), NoNumber)

    def test_names_that_are_alike(self):
        trail = Trail(["a", "b", "a"])
        self.assertEqual([trail.ask("a"), trail.pick(1)], [2, 2])

    def test_a_picked_name_is_found_again(self):
        trail = stepped(Trail(NAMES), [("ask", "f"), ("pick", 0)])
        self.assertEqual([trail.ask("f"), trail.pick(0)], [4, 1])
        self.assertEqual(trail.chosen(), [("f", 1), ("f", 1)])


class BackAndForth(unittest.TestCase):
    STEPS = [
        ("ask", "x"), ("ask", "f"), ("pick", 2), ("pick", 0), ("ask", ""), ("ask", "fi"), ("pick", 1), ("ask", "q"),
    ]

    def test_to_the_beginning_and_to_the_end(self):
        trail = Trail(NAMES)
        behind = [state(trail)[:3]]
        for step in self.STEPS:
            told(trail, step)
            behind.append(state(trail)[:3])
        many = len(self.STEPS)
        for number in range(many, 0, -1):
            self.assertEqual(trail.sizes(), (number, many - number))
            self.assertEqual(trail.back(), self.STEPS[number - 1][0])
            self.assertEqual(state(trail)[:3], behind[number - 1])
        before = state(trail)
        self.assertEqual(before, ("", [], [], (0, many)))
        self.assertIs(told(trail, ("back",)), NoNumber)
        self.assertEqual(state(trail), before)
        for number in range(many):
            self.assertEqual(trail.sizes(), (number, many - number))
            self.assertEqual(trail.forth(), self.STEPS[number][0])
            self.assertEqual(state(trail)[:3], behind[number + 1])
        before = state(trail)
        self.assertEqual(before[3], (many, 0))
        self.assertIs(told(trail, ("forth",)), NoNumber)
        self.assertEqual(state(trail), before)

    def test_none_at_the_beginning(self):
        trail = Trail(NAMES)
        for kind in ("back", "forth"):
            self.assertIs(told(trail, (kind,)), NoNumber)
            self.assertEqual(state(trail), ("", [], [], (0, 0)))

    def test_back_over_a_pick_gives_the_query_again(self):
        trail = stepped(Trail(NAMES), [("ask", "f"), ("pick", 2)])
        self.assertEqual(trail.back(), "pick")
        self.assertEqual(state(trail), ("f", [], [("ask", "f")], (1, 1)))
        self.assertEqual(trail.forth(), "pick")
        self.assertEqual(state(trail), ("", [("f", 2)], [("ask", "f"), ("pick", 2)], (2, 0)))
        trail.back()
        self.assertEqual(trail.pick(0), 1)

    def test_back_over_an_ask_gives_the_query_ahead_of_it(self):
        trail = stepped(Trail(NAMES), [("ask", "f"), ("ask", "fi"), ("ask", "fi")])
        self.assertEqual((trail.back(), trail.asked()), ("ask", "fi"))
        self.assertEqual((trail.back(), trail.asked()), ("ask", "f"))
        self.assertEqual((trail.back(), trail.asked()), ("ask", ""))

    def test_a_new_step_leaves_nothing_to_be_done_again(self):
        for step in (("ask", "x"), ("pick", 0)):
            trail = stepped(Trail(NAMES), [("ask", "f"), ("ask", "fi"), ("pick", 1), ("back",), ("back",)])
            self.assertEqual(trail.sizes(), (1, 2))
            told(trail, step)
            self.assertEqual(trail.sizes(), (2, 0))
            self.assertIs(told(trail, ("forth",)), NoNumber)

    def test_the_same_step_leaves_nothing_to_be_done_again(self):
        trail = stepped(Trail(NAMES), [("ask", "f"), ("ask", "fi"), ("back",), ("back",), ("ask", "f")])
        self.assertEqual(trail.sizes(), (1, 0))

    def test_what_is_refused_leaves_what_can_be_done_again(self):
        trail = stepped(Trail(NAMES), [("ask", "f"), ("ask", "fi"), ("pick", 1), ("back",), ("back",)])
        before = state(trail)
        for step in (("pick", 4), ("pick", -1)):
            self.assertIs(told(trail, step), NoNumber)
            self.assertEqual(state(trail), before)
        self.assertEqual((trail.forth(), trail.forth()), ("ask", "pick"))
        self.assertEqual(trail.chosen(), [("fi", 3)])

    def test_steps_told_do_not_have_what_was_taken_back(self):
        trail = stepped(Trail(NAMES), [("ask", "f"), ("pick", 0), ("ask", "x"), ("back",), ("back",), ("ask", "q")])
        self.assertEqual(trail.steps(), [("ask", "f"), ("ask", "q")])
        self.assertEqual(trail.chosen(), [])


class Twins(unittest.TestCase):
    def twins(self):
        trail = stepped(Trail(NAMES), [("ask", "f"), ("pick", 2), ("ask", "x"), ("pick", 0), ("back",), ("back",)])
        return trail, trail.twin()

    def test_a_twin_is_as_its_trail(self):
        trail, twin = self.twins()
        self.assertIsInstance(twin, Trail)
        self.assertIsNot(twin, trail)
        self.assertEqual(state(twin), state(trail))
        self.assertEqual(state(twin), ("", [("f", 2)], [("ask", "f"), ("pick", 2)], (2, 2)))
        self.assertEqual((twin.forth(), twin.asked(), twin.forth()), ("ask", "x", "pick"))
        self.assertEqual(twin.chosen(), [("f", 2), ("x", 4)])

    def test_a_twin_goes_back_to_the_beginning(self):
        trail, twin = self.twins()
        self.assertEqual((twin.back(), twin.asked(), twin.back()), ("pick", "f", "ask"))
        self.assertEqual(twin.sizes(), (0, 4))

    def test_each_goes_by_itself(self):
        moves = [("ask", "fi"), ("pick", 1), ("back",), ("forth",)]
        for move in moves:
            for other in (0, 1):
                pair = self.twins()
                before = state(pair[0])
                told(pair[other], move)
                self.assertNotEqual(state(pair[other]), before, move)
                self.assertEqual(state(pair[1 - other]), before, move)
        for one, other in itertools.product(moves, repeat=2):
            trail, twin = self.twins()
            told(trail, one)
            told(twin, other)
            alone, second = self.twins()
            told(alone, one)
            self.assertEqual(state(trail), state(alone), (one, other))
            told(second, other)
            self.assertEqual(state(twin), state(second), (one, other))

    def test_a_twin_has_the_same_names(self):
        trail, twin = self.twins()
        self.assertEqual(twin.ask(""), 5)
        self.assertEqual(twin.pick(4), 3)

    def test_a_twin_of_a_new_trail_and_of_a_twin(self):
        self.assertEqual(state(Trail(NAMES).twin()), ("", [], [], (0, 0)))
        trail, twin = self.twins()
        self.assertEqual(state(twin.twin()), state(trail))


class ManyOrders(unittest.TestCase):
    def check(self, names, steps):
        trail, plain = Trail(names), PlainTrail(names)
        for number, step in enumerate(steps):
            self.assertEqual(told(trail, step), told(plain, step), steps[: number + 1])
            self.assertEqual(state(trail), state(plain), steps[: number + 1])

    def test_all_orders_of_few_steps(self):
        steps = [("ask", "a"), ("ask", ""), ("pick", 0), ("pick", 1), ("pick", 9), ("back",), ("forth",)]
        for chosen in itertools.product(steps, repeat=5):
            self.check(["ab", "a"], chosen)

    def test_long_rows_of_steps(self):
        choices = random.Random(13)
        for row in range(300):
            names = choices.choice(NAME_LISTS)[:10]
            steps = []
            for step in range(choices.randrange(5, 50)):
                kind = choices.choice(["ask", "ask", "pick", "pick", "back", "back", "back", "forth", "forth"])
                if kind == "ask":
                    steps.append((kind, choices.choice(["", "a", "b", "ab", "A", "f", "ff", "fi", "s", "q"])))
                elif kind == "pick":
                    steps.append((kind, choices.choice([0, 0, 0, 1, 1, 2, 3, 5, 9, -1, 10])))
                else:
                    steps.append((kind,))
            self.check(names, steps)


class EachByItself(unittest.TestCase):
    def test_two_trails_leave_one_another_as_they_were(self):
        names = list(NAMES)
        one, other = Trail(names), Trail(names)
        one.ask("f")
        one.pick(1)
        one.back()
        self.assertEqual(state(other), ("", [], [], (0, 0)))
        other.ask("x")
        self.assertEqual(state(one), ("f", [], [("ask", "f")], (1, 1)))
        self.assertEqual(names, NAMES)

    def test_names_changed_behind_it(self):
        names = list(NAMES)
        trail = stepped(Trail(names), [("ask", "f")])
        twin = trail.twin()
        names[0] = "q"
        names.append("f")
        for each in (trail, twin):
            self.assertEqual([each.ask("f"), each.pick(1), each.ask("q"), each.ask("")], [4, 0, 0, 5])
        names.clear()
        self.assertEqual([trail.ask("fi"), trail.pick(1)], [2, 3])
        self.assertEqual(names, [])

    def test_told_lists_may_be_changed(self):
        trail = stepped(Trail(NAMES), [("ask", "f"), ("pick", 1), ("ask", "x"), ("back",)])
        before = state(trail)
        for tell in (trail.chosen, trail.steps):
            check_new_each_time(self, tell)
            self.assertEqual(state(trail), before)
        self.assertEqual(trail.forth(), "ask")

    def test_told_tuples_are_new(self):
        trail = stepped(Trail(NAMES), [("ask", "f"), ("pick", 1)])
        self.assertIsNot(trail.steps()[0], trail.steps()[0])
        self.assertIsNot(trail.chosen()[0], trail.chosen()[0])
        self.assertIsNot(trail.sizes(), trail.sizes())

    def test_kinds(self):
        trail = stepped(Trail(NAMES), [("ask", "f"), ("pick", 1)])
        self.assertIs(type(trail.steps()), list)
        self.assertIs(type(trail.steps()[0]), tuple)
        self.assertIs(type(trail.chosen()), list)
        self.assertIs(type(trail.chosen()[0]), tuple)
        self.assertIs(type(trail.sizes()), tuple)
        self.assertIs(type(trail.asked()), str)
        self.assertIs(type(trail.back()), str)
        self.assertIs(type(trail.ask("f")), int)
        self.assertIs(type(trail.pick(0)), int)


if __name__ == "__main__":
    unittest.main()
