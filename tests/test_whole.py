"""What holds for all names and queries, held against a plain list of all layings."""

import unittest
from unittest import mock

import fewfind.seekers
from fewfind.bounds import bound, found_by_bound
from fewfind.errors import NoFit, NoLaying, NoNumber
from fewfind.finding import finds, rank_of, ties
from fewfind.names import first_laying, fits, how_many, is_laying, is_name, is_query, last_laying
from fewfind.points import best, points
from fewfind.seekers import Seeker
from plain import (
    LONG_NAMES, LONG_QUERIES, NAME_LISTS, SHORT_NAMES, SHORT_QUERIES, all_layings, plain_best, plain_found,
    plain_points, plain_rows, words,
)


def pairs():
    for name in SHORT_NAMES:
        for query in SHORT_QUERIES:
            yield query, name
    for name in LONG_NAMES:
        for query in LONG_QUERIES:
            # The plain list of these is long, and a case of its own.
            if not (len(query) == 8 and len(set(name)) == 1):
                yield query, name


class Layings(unittest.TestCase):
    def check(self, query, name):
        layings = all_layings(query, name)
        at = (query, name)
        self.assertIs(fits(query, name), len(layings) > 0, at)
        self.assertEqual(how_many(query, name), len(layings), at)
        if not layings:
            with self.assertRaises(NoFit, msg=at):
                first_laying(query, name)
            with self.assertRaises(NoFit, msg=at):
                last_laying(query, name)
            return
        self.assertEqual(first_laying(query, name), [min(places) for places in zip(*layings)], at)
        self.assertEqual(last_laying(query, name), [max(places) for places in zip(*layings)], at)
        self.assertIn(first_laying(query, name), layings, at)
        self.assertIn(last_laying(query, name), layings, at)

    def test_fits_first_last_and_how_many(self):
        for query, name in pairs():
            self.check(query, name)

    def test_is_laying_of_all_short_lists(self):
        for name in ("aAb", "ab0_", "Aaab"):
            lists = [[]]
            for length in range(3):
                lists += [former + [place] for former in lists if len(former) == length for place in range(-2, 6)]
            for query in words("aAb", 3):
                layings = all_layings(query, name)
                for thing in lists:
                    self.assertIs(is_laying(query, name, thing), thing in layings, (query, name, thing))

    def test_a_longer_query_fits_no_more_names(self):
        for name in SHORT_NAMES[:1000] + LONG_NAMES:
            for query in SHORT_QUERIES:
                for more in "aAb0":
                    if not fits(query, name):
                        self.assertFalse(fits(query + more, name), (query, more, name))
                        self.assertFalse(fits(more + query, name), (query, more, name))


class Best(unittest.TestCase):
    def test_points_of_all_layings(self):
        for query, name in pairs():
            if how_many(query, name) <= 300:
                for laying in all_layings(query, name):
                    self.assertEqual(
                        points(query, name, laying), plain_points(query, name, laying), (query, name, laying)
                    )

    def test_the_best_of_all_layings(self):
        for query, name in pairs():
            self.assertEqual(best(query, name), plain_best(query, name), (query, name))

    def test_a_name_with_more_signs_behind_has_no_worse_best(self):
        for name in [name for name in SHORT_NAMES if len(name) <= 4] + [name[:23] for name in LONG_NAMES]:
            for query in SHORT_QUERIES:
                shorter = best(query, name)
                if shorter is not None:
                    for more in "aAb0_":
                        self.assertGreaterEqual(best(query, name + more)[0], shorter[0], (query, name, more))


def lists_and_queries():
    for names in NAME_LISTS:
        for query in SHORT_QUERIES + (LONG_QUERIES if names == LONG_NAMES else ["f", "ff", "fF", "few", "findf"]):
            # The plain list of these is long, and a case of its own.
            yield names, query[:5] if query == "aaaaaaaa" else query


class Found(unittest.TestCase):
    def test_name_by_name(self):
        for names, query in lists_and_queries():
            found = plain_found(names, query)
            for many in (0, 1, 2, len(found), len(found) + 1, 999):
                self.assertEqual(finds(names, query, many), found[:many], (names, query, many))

    def test_ranks(self):
        for names, query in lists_and_queries():
            ranks = {row[1]: rank for rank, row in enumerate(plain_found(names, query))}
            for number in range(0, len(names), 1 if len(names) < 20 else 7):
                self.assertEqual(rank_of(names, query, number), ranks.get(number), (names, query, number))

    def test_ties(self):
        for names, query in lists_and_queries():
            rows = plain_rows(names, query)
            expected = [
                (count, [number for other, number in rows if other == count])
                for count in sorted({count for count, number in rows}, reverse=True)
            ]
            self.assertEqual(ties(names, query), expected, (names, query))

    def test_while_one_types(self):
        for names, query in lists_and_queries():
            seeker = Seeker(names)
            for length in range(len(query) + 1):
                found = plain_found(names, query[:length])
                self.assertEqual(seeker.fitting(), sorted(row[1] for row in found), (names, query, length))
                for many in (0, 1, 3, 999):
                    self.assertEqual(seeker.now(many), found[:many], (names, query, length))
                if length < len(query):
                    seeker.letter(query[length])

    def test_by_bounds(self):
        for names, query in lists_and_queries():
            found = plain_found(names, query)
            for many in (1, 2, 5, 999):
                told, laid = found_by_bound(names, query, many)
                self.assertEqual(told, found[:many], (names, query, many))
                self.assertLessEqual(laid, len(names))

    def test_the_names_in_another_order(self):
        for names, query in lists_and_queries():
            turned = names[::-1]
            one = [(count, names[number]) for count, number in finds(names, query, 999)]
            other = [(count, turned[number]) for count, number in finds(turned, query, 999)]
            self.assertEqual(sorted(one), sorted(other))
            self.assertEqual([(count, len(name)) for count, name in one], [(count, len(name)) for count, name in other])


class Looks(unittest.TestCase):
    def test_a_name_is_looked_at_only_if_it_fitted_before(self):
        for names, query in lists_and_queries():
            seeker = Seeker(names)
            for length in range(1, len(query) + 1):
                ahead = seeker.looked()
                with mock.patch.object(fewfind.seekers, "fits", side_effect=fits) as looking:
                    seeker.letter(query[length - 1])
                looked_at = [call.args for call in looking.call_args_list]
                fitting = [name for name in names if all_layings(query[: length - 1], name)]
                self.assertEqual(looked_at, [(query[:length], name) for name in fitting])
                self.assertEqual(seeker.looked() - ahead, len(fitting))

    def test_going_back_and_typing_again_is_as_it_was(self):
        for names, query in lists_and_queries():
            seeker = Seeker(names)
            told = []
            for sign in query:
                told.append((seeker.typed(), seeker.fitting(), seeker.now(999)))
                seeker.letter(sign)
            looks = seeker.looked()
            for before in told[::-1]:
                self.assertEqual(seeker.back(), len(before[1]))
                self.assertEqual((seeker.typed(), seeker.fitting(), seeker.now(999)), before)
            self.assertEqual(seeker.looked(), looks)


class Bounds(unittest.TestCase):
    def test_no_bound_is_less_than_the_best(self):
        for query, name in pairs():
            if fits(query, name):
                self.assertGreaterEqual(bound(query, name), plain_best(query, name)[0], (query, name))


class NewEachTime(unittest.TestCase):
    def test_told_lists_may_be_changed(self):
        for query in ("", "a", "ab", "abb"):
            for tell in (first_laying, last_laying, lambda query, name: best(query, name)[1]):
                once = tell(query, "a_ab-bB")
                kept = list(once)
                once.append(99)
                once.reverse()
                self.assertEqual(tell(query, "a_ab-bB"), kept)
                self.assertIsNot(tell(query, "a_ab-bB"), tell(query, "a_ab-bB"))

    def test_kinds(self):
        self.assertIs(type(best("a", "a")), tuple)
        self.assertIs(type(best("", "a")), tuple)
        self.assertIs(type(best("a", "a")[1]), list)
        self.assertIs(type(first_laying("", "a")), list)
        self.assertIs(type(last_laying("", "a")), list)
        self.assertIs(type(how_many("", "a")), int)
        self.assertIs(type(points("", "a", [])), int)

    def test_what_is_handed_in_stays_as_it_was(self):
        laying = [0, 2]
        is_laying("ab", "aab", laying)
        points("ab", "aab", laying)
        self.assertEqual(laying, [0, 2])
        thing = [2, [0, (1, ["a"])], None]
        self.assertFalse(is_laying("abc", "abc", thing))
        self.assertFalse(is_name(thing))
        self.assertFalse(is_query(thing))
        with self.assertRaises(NoLaying):
            points("abc", "abc", thing)
        self.assertEqual(thing, [2, [0, (1, ["a"])], None])

    def test_what_is_handed_in_may_be_changed_then(self):
        laying = [0, 1]
        self.assertEqual(points("ab", "abb", laying), 37)
        laying[1] = 2
        self.assertEqual(points("ab", "abb", laying), 29)
        laying.append(3)
        with self.assertRaises(NoLaying):
            points("ab", "abb", laying)

    def test_told_lists_of_many_names_may_be_changed(self):
        names = ["ab", "a_b", "b", "ab", "aB"]
        for tell in (
            lambda: finds(names, "a", 9),
            lambda: finds(names, "a", 1),
            lambda: finds(names, "", 9),
            lambda: ties(names, "a"),
            lambda: ties(names, "a")[0][1],
            lambda: ties(names, "")[0][1],
            lambda: found_by_bound(names, "a", 9)[0],
            lambda: found_by_bound(names, "a", 0)[0],
        ):
            once = tell()
            kept = list(once)
            once.append(99)
            once.reverse()
            self.assertEqual(tell(), kept)
            self.assertIsNot(tell(), tell())

    def test_lists_of_names_stay_as_they_were(self):
        names = ["ab", "xa", "b", "ab", "A"]
        kept = list(names)
        finds(names, "a", 3)
        rank_of(names, "a", 1)
        ties(names, "a")
        found_by_bound(names, "a", 2)
        Seeker(names).add("x")
        with self.assertRaises(NoNumber):
            rank_of(names, "a", 5)
        self.assertEqual(names, kept)

    def test_lists_of_names_may_be_changed_then(self):
        names = ["ab", "xa"]
        told = (finds(names, "a", 9), ties(names, "a"), found_by_bound(names, "a", 9))
        kept = repr(told)
        names.append("a")
        names[0] = "b"
        self.assertEqual(repr(told), kept)
        self.assertEqual(finds(names, "a", 9), [(19, 2), (10, 1)])
        self.assertEqual(ties(names, "a"), [(19, [2]), (10, [1])])
        self.assertEqual(found_by_bound(names, "a", 9), ([(19, 2), (10, 1)], 2))
        self.assertEqual(rank_of(names, "a", 2), 0)

    def test_kinds_of_what_is_told_of_many(self):
        for told in (finds(["a"], "a", 1), ties(["a"], "a"), found_by_bound(["a"], "a", 1)[0]):
            self.assertIs(type(told), list)
            self.assertIs(type(told[0]), tuple)
        self.assertIs(type(found_by_bound(["a"], "a", 1)), tuple)
        self.assertIs(type(ties(["a"], "a")[0][1]), list)
        self.assertIs(type(rank_of(["a"], "a", 0)), int)
        self.assertIs(type(bound("", "a")), int)

    def test_a_refusal_changes_nothing(self):
        before = (best("ab", "a_bab"), first_laying("ab", "a_bab"), last_laying("ab", "a_bab"))
        for refused in (first_laying, last_laying):
            with self.assertRaises(NoFit):
                refused("x", "a_bab")
        with self.assertRaises(NoLaying):
            points("ab", "a_bab", [0, 1])
        self.assertEqual((best("ab", "a_bab"), first_laying("ab", "a_bab"), last_laying("ab", "a_bab")), before)


if __name__ == "__main__":
    unittest.main()
