"""What holds for all names and queries, held against a plain list of all layings."""

import itertools
import random
import unittest
from unittest import mock

import fewfind.seekers
from fewfind.bounds import bound, found_by_bound
from fewfind.choosing import Chooser
from fewfind.errors import NoFit, NoLaying, NoNumber, NoText
from fewfind.finding import finds, rank_of, ties
from fewfind.names import first_laying, fits, how_many, is_laying, is_name, is_query, last_laying
from fewfind.pages import Pager
from fewfind.points import best, points
from fewfind.seekers import Seeker
from fewfind.showing import read_shown, shown
from fewfind.sieves import Sieve, telling
from fewfind.slips import best_with_slips, finds_with_slips, least_slips
from fewfind.trails import Trail
from fewfind.trailtexts import read_trail, trail_text
from fewfind.wording import fit_words, found_by_words, places_by_words, points_by_words
from fewfind.writing import read, written
from plain import (
    LONG_NAMES, LONG_QUERIES, NAME_LISTS, SHORT_NAMES, SHORT_QUERIES, all_layings, plain_best, plain_found,
    plain_points, plain_rows, words,
)
from steps import check_new_each_time


def pairs():
    for name in SHORT_NAMES:
        for query in SHORT_QUERIES:
            yield query, name
    for name in LONG_NAMES:
        for query in LONG_QUERIES:
            # The plain list of these is long, and a case of its own.
            if not (len(query) == 8 and len(set(name)) == 1):
                yield query, name


class Layings(unittest.TestCase):
    def check(self, query, name):
        layings = all_layings(query, name)
        at = (query, name)
        self.assertIs(fits(query, name), len(layings) > 0, at)
        self.assertEqual(how_many(query, name), len(layings), at)
        if not layings:
            with self.assertRaises(NoFit, msg=at):
                first_laying(query, name)
            with self.assertRaises(NoFit, msg=at):
                last_laying(query, name)
            return
        self.assertEqual(first_laying(query, name), [min(places) for places in zip(*layings)], at)
        self.assertEqual(last_laying(query, name), [max(places) for places in zip(*layings)], at)
        self.assertIn(first_laying(query, name), layings, at)
        self.assertIn(last_laying(query, name), layings, at)

    def test_fits_first_last_and_how_many(self):
        for query, name in pairs():
            self.check(query, name)

    def test_is_laying_of_all_short_lists(self):
        for name in ("aAb", "ab0_", "Aaab"):
            lists = [[]]
            for length in range(3):
                lists += [former + [place] for former in lists if len(former) == length for place in range(-2, 6)]
            for query in words("aAb", 3):
                layings = all_layings(query, name)
                for thing in lists:
                    self.assertIs(is_laying(query, name, thing), thing in layings, (query, name, thing))

    def test_a_longer_query_fits_no_more_names(self):
        for name in SHORT_NAMES[:1000] + LONG_NAMES:
            for query in SHORT_QUERIES:
                for more in "aAb0":
                    if not fits(query, name):
                        self.assertFalse(fits(query + more, name), (query, more, name))
                        self.assertFalse(fits(more + query, name), (query, more, name))


class Best(unittest.TestCase):
    def test_points_of_all_layings(self):
        for query, name in pairs():
            if how_many(query, name) <= 300:
                for laying in all_layings(query, name):
                    self.assertEqual(
                        points(query, name, laying), plain_points(query, name, laying), (query, name, laying)
                    )

    def test_the_best_of_all_layings(self):
        for query, name in pairs():
            self.assertEqual(best(query, name), plain_best(query, name), (query, name))

    def test_a_name_with_more_signs_behind_has_no_worse_best(self):
        for name in [name for name in SHORT_NAMES if len(name) <= 4] + [name[:23] for name in LONG_NAMES]:
            for query in SHORT_QUERIES:
                shorter = best(query, name)
                if shorter is not None:
                    for more in "aAb0_":
                        self.assertGreaterEqual(best(query, name + more)[0], shorter[0], (query, name, more))


def lists_and_queries():
    for names in NAME_LISTS:
        for query in SHORT_QUERIES + (LONG_QUERIES if names == LONG_NAMES else ["f", "ff", "fF", "few", "findf"]):
            # The plain list of these is long, and a case of its own.
            yield names, query[:5] if query == "aaaaaaaa" else query


class Found(unittest.TestCase):
    def test_name_by_name(self):
        for names, query in lists_and_queries():
            found = plain_found(names, query)
            for many in (0, 1, 2, len(found), len(found) + 1, 999):
                self.assertEqual(finds(names, query, many), found[:many], (names, query, many))

    def test_ranks(self):
        for names, query in lists_and_queries():
            ranks = {row[1]: rank for rank, row in enumerate(plain_found(names, query))}
            for number in range(0, len(names), 1 if len(names) < 20 else 7):
                self.assertEqual(rank_of(names, query, number), ranks.get(number), (names, query, number))

    def test_ties(self):
        for names, query in lists_and_queries():
            rows = plain_rows(names, query)
            expected = [
                (count, [number for other, number in rows if other == count])
                for count in sorted({count for count, number in rows}, reverse=True)
            ]
            self.assertEqual(ties(names, query), expected, (names, query))

    def test_while_one_types(self):
        for names, query in lists_and_queries():
            seeker = Seeker(names)
            for length in range(len(query) + 1):
                found = plain_found(names, query[:length])
                self.assertEqual(seeker.fitting(), sorted(row[1] for row in found), (names, query, length))
                for many in (0, 1, 3, 999):
                    self.assertEqual(seeker.now(many), found[:many], (names, query, length))
                if length < len(query):
                    seeker.letter(query[length])

    def test_by_bounds(self):
        for names, query in lists_and_queries():
            found = plain_found(names, query)
            for many in (1, 2, 5, 999):
                told, laid = found_by_bound(names, query, many)
                self.assertEqual(told, found[:many], (names, query, many))
                self.assertLessEqual(laid, len(names))

    def test_through_a_sieve(self):
        for names, query in lists_and_queries():
            found = plain_found(names, query)
            left = Sieve(names).left(query)
            # The names that are left are numbered anew, and keep their order.
            among = finds([names[number] for number in left], query, 999)
            self.assertEqual([(count, left[number]) for count, number in among], found, (names, query))

    def test_by_one_word_and_without_picks(self):
        for names, query in lists_and_queries():
            found = plain_found(names, query)
            for many in (0, 1, 999):
                self.assertEqual(found_by_words(names, query, many), found[:many], (names, query, many))
                self.assertEqual(Chooser(names).found(query, many), found[:many], (names, query, many))

    def test_the_names_in_another_order(self):
        for names, query in lists_and_queries():
            turned = names[::-1]
            one = [(count, names[number]) for count, number in finds(names, query, 999)]
            other = [(count, turned[number]) for count, number in finds(turned, query, 999)]
            self.assertEqual(sorted(one), sorted(other))
            self.assertEqual([(count, len(name)) for count, name in one], [(count, len(name)) for count, name in other])


class Looks(unittest.TestCase):
    def test_a_name_is_looked_at_only_if_it_fitted_before(self):
        for names, query in lists_and_queries():
            seeker = Seeker(names)
            for length in range(1, len(query) + 1):
                ahead = seeker.looked()
                with mock.patch.object(fewfind.seekers, "fits", side_effect=fits) as looking:
                    seeker.letter(query[length - 1])
                looked_at = [call.args for call in looking.call_args_list]
                fitting = [name for name in names if all_layings(query[: length - 1], name)]
                self.assertEqual(looked_at, [(query[:length], name) for name in fitting])
                self.assertEqual(seeker.looked() - ahead, len(fitting))

    def test_going_back_and_typing_again_is_as_it_was(self):
        for names, query in lists_and_queries():
            seeker = Seeker(names)
            told = []
            for sign in query:
                told.append((seeker.typed(), seeker.fitting(), seeker.now(999)))
                seeker.letter(sign)
            looks = seeker.looked()
            for before in told[::-1]:
                self.assertEqual(seeker.back(), len(before[1]))
                self.assertEqual((seeker.typed(), seeker.fitting(), seeker.now(999)), before)
            self.assertEqual(seeker.looked(), looks)


class Bounds(unittest.TestCase):
    def test_no_bound_is_less_than_the_best(self):
        for query, name in pairs():
            if fits(query, name):
                self.assertGreaterEqual(bound(query, name), plain_best(query, name)[0], (query, name))


class Sieves(unittest.TestCase):
    def test_no_name_is_left_out_that_fits(self):
        for names in NAME_LISTS + [SHORT_NAMES, LONG_NAMES]:
            sieve = Sieve(names)
            for query in SHORT_QUERIES + LONG_QUERIES:
                left = set(sieve.left(query))
                for number, name in enumerate(names):
                    if fits(query, name):
                        self.assertIn(number, left, (query, name))

    def test_a_longer_query_leaves_no_more_names(self):
        for names, query in lists_and_queries():
            sieve = Sieve(names)
            for length in range(len(query)):
                self.assertLessEqual(set(sieve.left(query[: length + 1])), set(sieve.left(query[:length])))

    def test_what_tells_a_name_finds_it_alone(self):
        for names in NAME_LISTS:
            for number, query in enumerate(telling(names)):
                if query is not None:
                    self.assertEqual([row[1] for row in plain_found(names, query)], [number], (names, query))
                    self.assertIn(number, Sieve(names).left(query))


class Words(unittest.TestCase):
    def test_words_may_stand_in_any_order(self):
        groups = [["a", "b"], ["ab", "A", "b"], ["a", "a", "b"], ["fi", "few", "F"], ["s", "txt", "find", "q"]]
        for names in NAME_LISTS:
            for group in groups:
                told = [
                    (
                        found_by_words(names, text, 999),
                        [(fit_words(text, name), points_by_words(text, name)) for name in names],
                        [places_by_words(text, name) for name in names],
                    )
                    for text in map(" ".join, itertools.permutations(group))
                ]
                for other in told[1:]:
                    self.assertEqual(other, told[0], (names, group))

    def test_more_words_fit_no_more_names(self):
        for names in NAME_LISTS:
            for text in ("a", "a b", "few", "few f", "s r"):
                for more in ("a", "B", "few", "q"):
                    fewer = {row[1] for row in found_by_words(names, f"{text} {more}", 999)}
                    self.assertLessEqual(fewer, {row[1] for row in found_by_words(names, text, 999)})


class Picks(unittest.TestCase):
    def check_a_pick(self, chooser, names, query, number, last):
        before = [row[1] for row in chooser.found(query, 999)]
        chooser.pick(number)
        behind = [row[1] for row in chooser.found(query, 999)]
        self.assertEqual(sorted(before), sorted(behind))
        if number in before:
            self.assertLessEqual(behind.index(number), before.index(number), (names, query, number))
        # The name picked before loses what it had as the last one: all others stay as they were to one another.
        moved = (number, last)
        self.assertEqual(
            [other for other in behind if other not in moved], [other for other in before if other not in moved]
        )

    def test_a_picked_name_is_found_no_later(self):
        choices = random.Random(5)
        for names in NAME_LISTS[1:]:
            for query in ("", "a", "ab", "f", "ff", "s"):
                chooser, last = Chooser(names), None
                for step in range(25):
                    number = choices.randrange(min(len(names), 6))
                    self.check_a_pick(chooser, names, query, number, last)
                    last = number

    def test_without_picks_none_passes_another_one(self):
        for names, query in lists_and_queries():
            chooser = Chooser(names)
            for number in range(min(len(names), 3)):
                chooser.pick(number)
                chooser.pick(number)
            for number in range(min(len(names), 3)):
                chooser.forget(number)
            self.assertEqual(chooser.found(query, 999), plain_found(names, query), (names, query))


class Slips(unittest.TestCase):
    QUERIES = ["", "a", "ab", "ba", "aAb", "abab", "q", "fq", "few", "ffew", "sqt", "0b"]

    def test_without_slips_just_those_are_found(self):
        for names, query in lists_and_queries():
            for many in (0, 1, 999):
                self.assertEqual(finds_with_slips(names, query, 0, many), plain_found(names, query)[:many])

    def test_with_slips_no_fewer_are_found(self):
        for names in NAME_LISTS:
            for query in self.QUERIES:
                counts = [dict(row[::-1] for row in finds_with_slips(names, query, slips, 999)) for slips in range(6)]
                for fewer, more in zip(counts, counts[1:]):
                    for number in fewer:
                        self.assertGreaterEqual(more[number], fewer[number], (names, query))
                self.assertEqual(sorted(counts[len(query)]), list(range(len(names))))

    def test_a_name_is_found_from_its_least_slips_on(self):
        for names in NAME_LISTS:
            for query in self.QUERIES:
                for slips in range(len(query) + 1):
                    found = sorted(row[1] for row in finds_with_slips(names, query, slips, 999))
                    expected = [number for number, name in enumerate(names) if least_slips(query, name) <= slips]
                    self.assertEqual(found, expected, (names, query, slips))

    def test_the_rest_is_laid(self):
        for query, name in itertools.islice(pairs(), 0, None, 7):
            for many in (0, 1, 3):
                told = best_with_slips(query, name, many)
                self.assertIs(told is None, least_slips(query, name) > many)
                if told is not None:
                    counted, rest, laying = told
                    slips = len(query) - len(rest)
                    self.assertLessEqual(slips, many)
                    self.assertEqual((counted + 15 * slips, laying), plain_best(rest, name), (query, name))


class Pages(unittest.TestCase):
    def all_pages(self, pager):
        if pager.pages() == 0:
            return []
        told = [pager.turn(0)]
        while len(told) < pager.pages():
            told.append(pager.turn(1))
        return told

    def test_all_that_is_found_and_nothing_twice(self):
        for names, query in lists_and_queries():
            found = plain_found(names, query)
            for size in (1, 2, 3, len(found) or 1, len(found) + 1):
                pager = Pager(names, size)
                pager.ask(query)
                if found:
                    pager.move(-[row[1] for row in found].index(pager.pointed()[1]))
                pages = self.all_pages(pager)
                self.assertEqual([row for page in pages for row in page], found, (names, query, size))
                self.assertEqual([len(page) for page in pages[:-1]], [size] * (len(pages) - 1))

    def test_row_by_row(self):
        for names, query in lists_and_queries():
            found = plain_found(names, query)
            pager = Pager(names, 2)
            pager.ask(query)
            rows = [pager.move(1) for row in found]
            self.assertEqual(sorted(rows), sorted(found), (names, query))


class Texts(unittest.TestCase):
    def test_a_shown_name_reads_back(self):
        for query, name in pairs():
            told = plain_best(query, name)
            if told is not None and len(name) <= 24:
                self.assertEqual(read_shown(shown(name, told[1])), (name, told[1]))

    def test_picks_read_back(self):
        for names in NAME_LISTS:
            chooser = Chooser(names)
            for number in range(0, len(names), 2):
                for pick in range(number % 7):
                    chooser.pick(number)
            rows = [(name, chooser.picked(number)) for number, name in enumerate(names)]
            self.assertEqual(read(written(rows)), rows)

    def test_read_back_as_nothing_else(self):
        texts = {}
        for rows in itertools.product([("a", 1), ("1", 1), ("a", 11), ("1a", 0)], repeat=3):
            for length in range(4):
                texts.setdefault(written(rows[:length]), rows[:length])
                self.assertEqual(texts[written(rows[:length])], rows[:length])

    def test_trails_read_back_as_nothing_else(self):
        texts = {}
        for names, trail in some_trails():
            steps = texts.setdefault(trail_text(trail), trail.steps())
            self.assertEqual(steps, trail.steps())
            self.assertEqual(read_trail(names, trail_text(trail)).steps(), trail.steps())


def some_trails():
    choices = random.Random(20)
    for row in range(200):
        names = choices.choice(NAME_LISTS)[:12]
        trail = Trail(names)
        for step in range(choices.randrange(12)):
            query = choices.choice(["", "a", "b", "ab", "f", "ff", "q", "s"])
            many = trail.ask(query)
            if many and choices.randrange(3):
                trail.pick(choices.randrange(many))
        yield names, trail


class Trails(unittest.TestCase):
    def test_what_is_picked_is_found_by_the_query_asked_then(self):
        for names, trail in some_trails():
            for query, number in trail.chosen():
                self.assertIn(number, [row[1] for row in plain_found(names, query)], (names, query))
            asked = [""]
            picks = []
            for kind, thing in trail.steps():
                if kind == "pick":
                    picks.append((asked[-1], thing))
                asked.append(thing if kind == "ask" else "")
            self.assertEqual(trail.chosen(), picks)
            self.assertEqual(trail.asked(), asked[-1])

    def test_back_and_forth_step_by_step(self):
        for names, trail in some_trails():
            steps = trail.steps()
            told = []
            while trail.sizes()[0]:
                told.append((trail.asked(), trail.chosen(), trail.steps()))
                self.assertEqual(trail.back(), steps[trail.sizes()[0]][0])
                self.assertEqual(trail.steps(), steps[: trail.sizes()[0]])
            self.assertEqual((trail.asked(), trail.chosen(), trail.sizes()), ("", [], (0, len(steps))))
            while trail.sizes()[1]:
                self.assertEqual(trail.forth(), steps[trail.sizes()[0] - 1][0])
                self.assertEqual((trail.asked(), trail.chosen(), trail.steps()), told.pop())
            self.assertEqual(told, [])


class Together(unittest.TestCase):
    def test_from_what_is_typed_to_what_is_written(self):
        names = ["src/few_find.py", "src/fewFind.txt", "find_few", "fewer", "tests/few.py"]
        seeker = Seeker(names)
        self.assertEqual([seeker.letter(sign) for sign in "few"], [5, 5, 5])
        found = seeker.now(9)
        self.assertEqual(found, finds(names, "few", 9))
        self.assertEqual(found, found_by_bound(names, "few", 9)[0])
        self.assertEqual(found, found_by_words(names, "few", 9))
        self.assertEqual(found, finds_with_slips(names, "few", 0, 9))
        self.assertEqual([row[1] for row in found], [3, 2, 4, 0, 1])
        self.assertEqual(shown(names[0], best("few", names[0])[1]), "src/[few]_find.py")
        trail = Trail(names)
        chooser = Chooser(names)
        self.assertEqual(trail.ask("few"), 5)
        chooser.pick(trail.pick(4))
        self.assertEqual(chooser.found("few", 2), [(55, 3), (55, 1)])
        self.assertEqual(trail_text(trail), "? few\n= 1\n")
        self.assertEqual(written([(names[number], picks) for number, picks in chooser.usual(9)]), "1 src/fewFind.txt\n")


class NewEachTime(unittest.TestCase):
    def test_told_lists_may_be_changed(self):
        for query in ("", "a", "ab", "abb"):
            for tell in (
                lambda: first_laying(query, "a_ab-bB"),
                lambda: last_laying(query, "a_ab-bB"),
                lambda: best(query, "a_ab-bB")[1],
            ):
                check_new_each_time(self, tell)

    def test_kinds(self):
        self.assertIs(type(best("a", "a")), tuple)
        self.assertIs(type(best("", "a")), tuple)
        self.assertIs(type(best("a", "a")[1]), list)
        self.assertIs(type(first_laying("", "a")), list)
        self.assertIs(type(last_laying("", "a")), list)
        self.assertIs(type(how_many("", "a")), int)
        self.assertIs(type(points("", "a", [])), int)

    def test_what_is_handed_in_stays_as_it_was(self):
        laying = [0, 2]
        is_laying("ab", "aab", laying)
        points("ab", "aab", laying)
        self.assertEqual(laying, [0, 2])
        thing = [2, [0, (1, ["a"])], None]
        self.assertFalse(is_laying("abc", "abc", thing))
        self.assertFalse(is_name(thing))
        self.assertFalse(is_query(thing))
        with self.assertRaises(NoLaying):
            points("abc", "abc", thing)
        self.assertEqual(thing, [2, [0, (1, ["a"])], None])

    def test_what_is_handed_in_may_be_changed_then(self):
        laying = [0, 1]
        self.assertEqual(points("ab", "abb", laying), 37)
        laying[1] = 2
        self.assertEqual(points("ab", "abb", laying), 29)
        laying.append(3)
        with self.assertRaises(NoLaying):
            points("ab", "abb", laying)

    def test_told_lists_of_many_names_may_be_changed(self):
        names = ["ab", "a_b", "b", "ab", "aB"]
        for tell in (
            lambda: finds(names, "a", 9),
            lambda: finds(names, "a", 1),
            lambda: finds(names, "", 9),
            lambda: ties(names, "a"),
            lambda: ties(names, "a")[0][1],
            lambda: ties(names, "")[0][1],
            lambda: found_by_bound(names, "a", 9)[0],
            lambda: found_by_bound(names, "a", 0)[0],
            lambda: found_by_words(names, "a b", 9),
            lambda: found_by_words(names, "", 1),
            lambda: places_by_words("a b", "ab"),
            lambda: places_by_words("", "ab"),
            lambda: finds_with_slips(names, "aq", 1, 9),
            lambda: telling(names),
            lambda: read("1 a\n2 b\n"),
            lambda: Trail(names).steps(),
            lambda: Pager(names, 2).page(),
        ):
            check_new_each_time(self, tell)

    def test_lists_of_names_stay_as_they_were(self):
        names = ["ab", "xa", "b", "ab", "A"]
        kept = list(names)
        finds(names, "a", 3)
        rank_of(names, "a", 1)
        ties(names, "a")
        found_by_bound(names, "a", 2)
        Seeker(names).add("x")
        found_by_words(names, "a b", 2)
        Chooser(names).pick(1)
        Sieve(names).add("x")
        telling(names)
        finds_with_slips(names, "ax", 1, 2)
        Pager(names, 2).ask("a")
        Trail(names).pick(0)
        read_trail(names, "? a\n= 0\n")
        with self.assertRaises(NoText):
            read_trail(names, "? a\n= 2\n")
        with self.assertRaises(NoNumber):
            rank_of(names, "a", 5)
        self.assertEqual(names, kept)

    def test_lists_of_names_may_be_changed_then(self):
        names = ["ab", "xa"]
        told = (
            finds(names, "a", 9), ties(names, "a"), found_by_bound(names, "a", 9), found_by_words(names, "a a", 9),
            telling(names), finds_with_slips(names, "aq", 1, 9),
        )
        kept = repr(told)
        names.append("a")
        names[0] = "b"
        self.assertEqual(repr(told), kept)
        self.assertEqual(finds(names, "a", 9), [(19, 2), (10, 1)])
        self.assertEqual(ties(names, "a"), [(19, [2]), (10, [1])])
        self.assertEqual(found_by_bound(names, "a", 9), ([(19, 2), (10, 1)], 2))
        self.assertEqual(rank_of(names, "a", 2), 0)
        self.assertEqual(found_by_words(names, "a a", 9), [(38, 2), (20, 1)])
        self.assertEqual(telling(names), ["b", "x", None])
        self.assertEqual(finds_with_slips(names, "aq", 1, 9), [(4, 2), (-5, 1)])

    def test_kinds_of_what_is_told_of_many(self):
        for told in (
            finds(["a"], "a", 1), ties(["a"], "a"), found_by_bound(["a"], "a", 1)[0], found_by_words(["a"], "", 1),
        ):
            self.assertIs(type(told), list)
            self.assertIs(type(told[0]), tuple)
        self.assertIs(type(found_by_bound(["a"], "a", 1)), tuple)
        self.assertIs(type(ties(["a"], "a")[0][1]), list)
        self.assertIs(type(rank_of(["a"], "a", 0)), int)
        self.assertIs(type(bound("", "a")), int)
        self.assertIs(type(points_by_words("", "a")), int)
        self.assertIs(type(places_by_words("", "a")), list)
        self.assertIs(type(telling([])), list)

    def test_a_refusal_changes_nothing(self):
        before = (best("ab", "a_bab"), first_laying("ab", "a_bab"), last_laying("ab", "a_bab"))
        for refused in (first_laying, last_laying):
            with self.assertRaises(NoFit):
                refused("x", "a_bab")
        with self.assertRaises(NoLaying):
            points("ab", "a_bab", [0, 1])
        self.assertEqual((best("ab", "a_bab"), first_laying("ab", "a_bab"), last_laying("ab", "a_bab")), before)


if __name__ == "__main__":
    unittest.main()
