"""Plain ways to tell what the program tells, for the tests to hold it against."""

import functools
import itertools
import re


def words(signs, longest):
    for length in range(longest + 1):
        for word in itertools.product(signs, repeat=length):
            yield "".join(word)


@functools.lru_cache(maxsize=None)
def all_layings(query, name, start=0):
    """All layings from a place on, the least first."""
    if query == "":
        return [[]]
    wanted = query[0] + query[0].upper()
    layings = []
    for place in range(start, len(name)):
        if name[place] in wanted:
            layings += [[place] + rest for rest in all_layings(query[1:], name, place + 1)]
    return layings


def plain_points(query, name, laying):
    total = 0
    for sign, place in zip(query, laying):
        ahead = name[:place]
        total += 10
        if ahead == "":
            total += 8
        elif re.search(r"[_./-]\Z", ahead):
            total += 6
        elif re.search(r"[a-z0-9][A-Z]\Z", name[: place + 1]):
            total += 5
        if sign == name[place]:
            total += 1
    if laying:
        total -= (0, 1, 2, 3)[min(laying[0], 3)]
    for former, latter in zip(laying, laying[1:]):
        total += {1: 7, 2: -1, 3: -2, 4: -3, 5: -4}.get(latter - former, -5)
    return total


def plain_best(query, name):
    counted = [(-plain_points(query, name, laying), laying) for laying in all_layings(query, name)]
    if not counted:
        return None
    least = min(counted)
    return (-least[0], least[1])


# Names and queries of few signs in all their orders, and longer ones of every kind of sign.
SHORT_NAMES = [name for name in words("aAb0_", 4) if name] + ["xxx" + name for name in words("aB_", 5)]
SHORT_QUERIES = list(words("aAb0", 3))
LONG_NAMES = [
    "src/fewFind/read_me.txt",
    "HTTPServer2Http.server-2",
    "aaaaaaaaaaaaaaaaaaaaaaaa",
    "aAaAaAaAaAaAaAaA",
    "a-b_c.d/e-f_g.h/i-j_k.l/",
    "abAB12ab_AB.12/ab-AB",
    "z9Z9z9Z9",
    "_-./",
    "mississippiMISSISSIPPI",
]
LONG_QUERIES = [
    "", "s", "sf", "srcfind", "rm", "readme", "hs2", "HS2", "http", "hTTp", "httpserv", "aaaa", "aAa",
    "aaaaaaaa", "abcdefgh", "ab12", "AB12", "aB", "z9z9", "Z9", "msp", "MISS", "misSIPP", "sssssSSS", "q", "txt",
]
