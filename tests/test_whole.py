"""What holds for all names and queries, held against a plain list of all layings."""

import unittest

from fewfind.errors import NoFit, NoLaying
from fewfind.names import first_laying, fits, how_many, is_laying, is_name, is_query, last_laying
from fewfind.points import best, points
from plain import LONG_NAMES, LONG_QUERIES, SHORT_NAMES, SHORT_QUERIES, all_layings, plain_best, plain_points, words


def pairs():
    for name in SHORT_NAMES:
        for query in SHORT_QUERIES:
            yield query, name
    for name in LONG_NAMES:
        for query in LONG_QUERIES:
            # The plain list of these is long, and a case of its own.
            if not (len(query) == 8 and len(set(name)) == 1):
                yield query, name


class Layings(unittest.TestCase):
    def check(self, query, name):
        layings = all_layings(query, name)
        at = (query, name)
        self.assertIs(fits(query, name), len(layings) > 0, at)
        self.assertEqual(how_many(query, name), len(layings), at)
        if not layings:
            with self.assertRaises(NoFit, msg=at):
                first_laying(query, name)
            with self.assertRaises(NoFit, msg=at):
                last_laying(query, name)
            return
        self.assertEqual(first_laying(query, name), [min(places) for places in zip(*layings)], at)
        self.assertEqual(last_laying(query, name), [max(places) for places in zip(*layings)], at)
        self.assertIn(first_laying(query, name), layings, at)
        self.assertIn(last_laying(query, name), layings, at)

    def test_fits_first_last_and_how_many(self):
        for query, name in pairs():
            self.check(query, name)

    def test_is_laying_of_all_short_lists(self):
        for name in ("aAb", "ab0_", "Aaab"):
            lists = [[]]
            for length in range(3):
                lists += [former + [place] for former in lists if len(former) == length for place in range(-2, 6)]
            for query in words("aAb", 3):
                layings = all_layings(query, name)
                for thing in lists:
                    self.assertIs(is_laying(query, name, thing), thing in layings, (query, name, thing))

    def test_a_longer_query_fits_no_more_names(self):
        for name in SHORT_NAMES[:1000] + LONG_NAMES:
            for query in SHORT_QUERIES:
                for more in "aAb0":
                    if not fits(query, name):
                        self.assertFalse(fits(query + more, name), (query, more, name))
                        self.assertFalse(fits(more + query, name), (query, more, name))


class Best(unittest.TestCase):
    def test_points_of_all_layings(self):
        for query, name in pairs():
            if how_many(query, name) <= 300:
                for laying in all_layings(query, name):
                    self.assertEqual(
                        points(query, name, laying), plain_points(query, name, laying), (query, name, laying)
                    )

    def test_the_best_of_all_layings(self):
        for query, name in pairs():
            self.assertEqual(best(query, name), plain_best(query, name), (query, name))

    def test_a_name_with_more_signs_behind_has_no_worse_best(self):
        for name in [name for name in SHORT_NAMES if len(name) <= 4] + [name[:23] for name in LONG_NAMES]:
            for query in SHORT_QUERIES:
                shorter = best(query, name)
                if shorter is not None:
                    for more in "aAb0_":
                        self.assertGreaterEqual(best(query, name + more)[0], shorter[0], (query, name, more))


class NewEachTime(unittest.TestCase):
    def test_told_lists_may_be_changed(self):
        for query in ("", "a", "ab", "abb"):
            for tell in (first_laying, last_laying, lambda query, name: best(query, name)[1]):
                once = tell(query, "a_ab-bB")
                kept = list(once)
                once.append(99)
                once.reverse()
                self.assertEqual(tell(query, "a_ab-bB"), kept)
                self.assertIsNot(tell(query, "a_ab-bB"), tell(query, "a_ab-bB"))

    def test_kinds(self):
        self.assertIs(type(best("a", "a")), tuple)
        self.assertIs(type(best("", "a")), tuple)
        self.assertIs(type(best("a", "a")[1]), list)
        self.assertIs(type(first_laying("", "a")), list)
        self.assertIs(type(last_laying("", "a")), list)
        self.assertIs(type(how_many("", "a")), int)
        self.assertIs(type(points("", "a", [])), int)

    def test_what_is_handed_in_stays_as_it_was(self):
        laying = [0, 2]
        is_laying("ab", "aab", laying)
        points("ab", "aab", laying)
        self.assertEqual(laying, [0, 2])
        thing = [2, [0, (1, ["a"])], None]
        self.assertFalse(is_laying("abc", "abc", thing))
        self.assertFalse(is_name(thing))
        self.assertFalse(is_query(thing))
        with self.assertRaises(NoLaying):
            points("abc", "abc", thing)
        self.assertEqual(thing, [2, [0, (1, ["a"])], None])

    def test_what_is_handed_in_may_be_changed_then(self):
        laying = [0, 1]
        self.assertEqual(points("ab", "abb", laying), 37)
        laying[1] = 2
        self.assertEqual(points("ab", "abb", laying), 29)
        laying.append(3)
        with self.assertRaises(NoLaying):
            points("ab", "abb", laying)

    def test_a_refusal_changes_nothing(self):
        before = (best("ab", "a_bab"), first_laying("ab", "a_bab"), last_laying("ab", "a_bab"))
        for refused in (first_laying, last_laying):
            with self.assertRaises(NoFit):
                refused("x", "a_bab")
        with self.assertRaises(NoLaying):
            points("ab", "a_bab", [0, 1])
        self.assertEqual((best("ab", "a_bab"), first_laying("ab", "a_bab"), last_laying("ab", "a_bab")), before)


if __name__ == "__main__":
    unittest.main()
