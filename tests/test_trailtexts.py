import random
import re
import unittest

from fewfind.errors import NoText
from fewfind.trails import Trail
from fewfind.trailtexts import read_trail, trail_text
from plain import NAME_LISTS, plain_found, words
from steps import stepped, told, trail_state as state

# By f found as 1, 0, 2, 3; by fi as 0, 3; by x as 4, 3, 2; without signs as 4, 1, 0, 2, 3.
NAMES = ["find", "few", "Fox12", "xfinds", "x"]
NO_TEXTS = [
    # The last line feed is not there.
    "? f", "? ", "= 0", "? f\n= 0", "?", "=", " ", "0",
    # Lines without signs, and of another beginning.
    "\n", "\n\n", "? f\n\n", "\n? f\n", "? f\n\n= 0\n", "f\n", "?\n", "=\n", "?f\n", "=0\n", " ? f\n", "! f\n", "# f\n",
    "?  f\n", "=  0\n", "? f\nf\n", "?? f\n", "== 0\n", "0\n", "ask f\n", "pick 0\n", "?= f\n", "? f\n 0\n", " \n",
    "- 0\n", "?\n= 0\n",
    # Queries that are none.
    "? f \n", "? f i\n", "? _\n", "? few-4\n", "? a/b\n", "? .\n", "? abcdefghi\n", "? f\n? f,\n", "? [f]\n", "? = 0\n",
    # Noughts ahead, signs ahead, no figures at all.
    "= 00\n", "= 01\n", "? f\n= 00\n", "= 000001\n", "= +0\n", "= -0\n", "= -1\n", "= +1\n", "= \n", "= a\n", "= 0 \n",
    "= 0 0\n", "= 1.0\n", "= 0x1\n", "= 1_0\n", "? f\n= f\n", "= ? f\n",
    # More than 6 figures, and numbers that no name has.
    "= 1000000\n", "= 0000000\n", "= 12345678901234567890\n", "= 5\n", "= 6\n", "= 999999\n", "? f\n= 5\n",
    # Numbers that are not found by the query asked then.
    "? f\n= 4\n", "? x\n= 0\n", "? x\n= 1\n", "? q\n= 0\n", "? F\n= 0\n", "? x\n? f\n= 4\n", "? f\n= 1\n? x\n= 1\n",
    "? x\n= 4\n? f\n= 4\n",
]


class TrailText(unittest.TestCase):
    def test_no_steps(self):
        self.assertEqual(trail_text(Trail(NAMES)), "")
        self.assertEqual(trail_text(Trail([])), "")

    def test_asks(self):
        self.assertEqual(trail_text(stepped(Trail(NAMES), [("ask", "f")])), "? f\n")
        trail = stepped(Trail(NAMES), [("ask", "f"), ("ask", ""), ("ask", "q9Z")])
        self.assertEqual(trail_text(trail), "? f\n? \n? q9Z\n")

    def test_the_query_without_signs(self):
        self.assertEqual(trail_text(stepped(Trail(NAMES), [("ask", "")])), "? \n")

    def test_picks_by_their_numbers(self):
        self.assertEqual(trail_text(stepped(Trail(NAMES), [("pick", 0)])), "= 4\n")
        self.assertEqual(trail_text(stepped(Trail(NAMES), [("ask", "f"), ("pick", 1), ("pick", 4)])), "? f\n= 0\n= 3\n")
        self.assertEqual(trail_text(stepped(Trail(["a"] * 12), [("pick", 10)])), "= 10\n")

    def test_steps_taken_back_are_not_written(self):
        trail = stepped(Trail(NAMES), [("ask", "f"), ("pick", 1), ("ask", "x"), ("back",)])
        self.assertEqual(trail_text(trail), "? f\n= 0\n")
        trail.back()
        self.assertEqual(trail_text(trail), "? f\n")
        trail.back()
        self.assertEqual(trail_text(trail), "")
        trail.forth()
        self.assertEqual(trail_text(trail), "? f\n")

    def test_the_trail_stays_as_it_was(self):
        trail = stepped(Trail(NAMES), [("ask", "f"), ("pick", 1), ("ask", "x"), ("back",)])
        before = state(trail)
        trail_text(trail)
        self.assertEqual(state(trail), before)


class ReadTrail(unittest.TestCase):
    def test_the_text_without_signs(self):
        trail = read_trail(NAMES, "")
        self.assertIsInstance(trail, Trail)
        self.assertEqual(state(trail), ("", [], [], (0, 0)))

    def test_asks_and_picks(self):
        trail = read_trail(NAMES, "? x\n? f\n= 0\n= 4\n? \n? fi\n= 3\n? q\n")
        steps = [
            ("ask", "x"), ("ask", "f"), ("pick", 0), ("pick", 4), ("ask", ""), ("ask", "fi"), ("pick", 3), ("ask", "q"),
        ]
        self.assertEqual(state(trail), ("q", [("f", 0), ("", 4), ("fi", 3)], steps, (8, 0)))

    def test_a_number_is_no_place(self):
        self.assertEqual(read_trail(NAMES, "? f\n= 1\n").chosen(), [("f", 1)])
        self.assertEqual(read_trail(NAMES, "? fi\n= 3\n").chosen(), [("fi", 3)])
        self.assertEqual(read_trail(["a"] * 12, "= 10\n= 0\n").chosen(), [("", 10), ("", 0)])

    def test_queries_of_up_to_eight_signs(self):
        for query in ("", "a", "Z9", "abcdefgh", "01234567"):
            self.assertEqual(read_trail(NAMES, f"? {query}\n").steps(), [("ask", query)])

    def test_the_trail_goes_on(self):
        trail = read_trail(NAMES, "? f\n= 2\n? x\n")
        self.assertEqual([trail.back(), trail.back(), trail.asked()], ["ask", "pick", "f"])
        self.assertEqual((trail.sizes(), trail.forth()), ((1, 2), "pick"))
        self.assertEqual([trail.ask("fi"), trail.pick(1)], [2, 3])
        self.assertEqual(trail_text(trail), "? f\n= 2\n? fi\n= 3\n")

    def test_no_texts(self):
        for text in NO_TEXTS:
            with self.assertRaises(NoText, msg=repr(text)):
                read_trail(NAMES, text)

    def test_no_number_where_there_are_no_names(self):
        self.assertEqual(read_trail([], "? a\n? \n").steps(), [("ask", "a"), ("ask", "")])
        for text in ("= 0\n", "? \n= 0\n"):
            with self.assertRaises(NoText):
                read_trail([], text)

    def check(self, names, text):
        steps = plain_steps(names, text)
        if steps is None:
            with self.assertRaises(NoText, msg=(names, text)):
                read_trail(names, text)
            return False
        trail = read_trail(names, text)
        self.assertEqual((trail.steps(), trail.sizes()), (steps, (len(steps), 0)), (names, text))
        self.assertEqual(trail_text(trail), text)
        return True

    def test_all_short_texts(self):
        read = 0
        for text in words("?= 01a\n", 6):
            read += self.check(["ba", "b"], text)
        self.assertGreater(read, 20)

    def test_each_sign_in_each_part(self):
        for sign in map(chr, [10] + list(range(32, 127))):
            for text in (f"{sign} f\n", f"?{sign}f\n", f"? {sign}\n", f"? f{sign}\n", f"= {sign}\n", f"= 1{sign}\n"):
                self.check(NAMES, text)
            self.check(NAMES, f"? f{sign}")

    def test_lines_in_many_orders(self):
        choices = random.Random(14)
        lines = ["? \n", "? f\n", "? fi\n", "? x\n", "? q\n", "= 0\n", "= 1\n", "= 2\n", "= 3\n", "= 4\n"]
        read = 0
        for row in range(3000):
            read += self.check(NAMES, "".join(choices.choices(lines, k=choices.randrange(8))))
        self.assertGreater(read, 500)


def plain_steps(names, text):
    """The steps that a text tells, None where it tells none."""
    if not re.fullmatch(r"(\? [A-Za-z0-9]{0,8}\n|= (0|[1-9][0-9]{0,5})\n)*", text):
        return None
    query, steps = "", []
    for kind, thing in re.findall(r"(.) (.*)\n", text):
        if kind == "?":
            query = thing
            steps.append(("ask", thing))
        else:
            if int(thing) not in [row[1] for row in plain_found(names, query)]:
                return None
            query = ""
            steps.append(("pick", int(thing)))
    return steps


class BackAgain(unittest.TestCase):
    def test_what_is_written_is_read(self):
        choices = random.Random(15)
        for row in range(300):
            names = choices.choice(NAME_LISTS)[:12]
            trail = Trail(names)
            for step in range(choices.randrange(20)):
                kind = choices.choice(["ask", "ask", "pick", "pick", "pick", "back", "forth"])
                if kind == "ask":
                    told(trail, (kind, choices.choice(["", "a", "b", "ab", "f", "ff", "Q", "s"])))
                elif kind == "pick":
                    told(trail, (kind, choices.randrange(5)))
                else:
                    told(trail, (kind,))
            again = read_trail(names, trail_text(trail))
            self.assertEqual(state(again)[:3], state(trail)[:3])
            self.assertEqual(again.sizes(), (trail.sizes()[0], 0))
            self.assertEqual(trail_text(again), trail_text(trail))

    def test_each_is_a_new_trail(self):
        trail = stepped(Trail(NAMES), [("ask", "f"), ("pick", 1)])
        one, other = [read_trail(NAMES, trail_text(trail)) for number in range(2)]
        one.ask("x")
        one.pick(0)
        self.assertEqual(trail.sizes(), (2, 0))
        self.assertEqual(other.sizes(), (2, 0))


class NamesHandedIn(unittest.TestCase):
    def test_names_stay_as_they_were(self):
        names = list(NAMES)
        read_trail(names, "? f\n= 1\n")
        with self.assertRaises(NoText):
            read_trail(names, "? f\n= 4\n")
        self.assertEqual(names, NAMES)

    def test_names_changed_behind_it(self):
        names = list(NAMES)
        trail = read_trail(names, "? f\n= 1\n")
        names[0] = "q"
        names.append("f")
        self.assertEqual([trail.ask("f"), trail.pick(1)], [4, 0])
        names.clear()
        self.assertEqual([trail.ask("fi"), trail.pick(1)], [2, 3])

    def test_kinds(self):
        trail = read_trail(NAMES, "= 1\n")
        self.assertIs(type(trail.steps()[0]), tuple)
        self.assertIs(type(trail.steps()[0][1]), int)
        self.assertIs(type(trail_text(trail)), str)


if __name__ == "__main__":
    unittest.main()
