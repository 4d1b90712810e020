"""Plain ways to tell what the program tells, for the tests to hold it against."""

import collections
import functools
import itertools
import re


def words(signs, longest):
    for length in range(longest + 1):
        for word in itertools.product(signs, repeat=length):
            yield "".join(word)


@functools.lru_cache(maxsize=None)
def all_layings(query, name, start=0):
    """All layings from a place on, the least first."""
    if query == "":
        return [[]]
    wanted = query[0] + query[0].upper()
    layings = []
    for place in range(start, len(name)):
        if name[place] in wanted:
            layings += [[place] + rest for rest in all_layings(query[1:], name, place + 1)]
    return layings


def plain_points(query, name, laying):
    total = 0
    for sign, place in zip(query, laying):
        ahead = name[:place]
        total += 10
        if ahead == "":
            total += 8
        elif re.search(r"[_./-]\Z", ahead):
            total += 6
        elif re.search(r"[a-z0-9][A-Z]\Z", name[: place + 1]):
            total += 5
        if sign == name[place]:
            total += 1
    if laying:
        total -= (0, 1, 2, 3)[min(laying[0], 3)]
    for former, latter in zip(laying, laying[1:]):
        total += {1: 7, 2: -1, 3: -2, 4: -3, 5: -4}.get(latter - former, -5)
    return total


@functools.lru_cache(maxsize=None)
def plain_best(query, name):
    counted = [(-plain_points(query, name, laying), laying) for laying in all_layings(query, name)]
    if not counted:
        return None
    least = min(counted)
    return (-least[0], least[1])


def plain_rows(names, query):
    """Tuples (points, number) of all names that fit, by rising numbers."""
    laid = [(plain_best(query, name), number) for number, name in enumerate(names)]
    return [(told[0], number) for told, number in laid if told is not None]


def plain_order(names, rows):
    """Rows in the order in which they are found."""
    # Sorting keeps the order of what is alike, so the last sorting is the one that weighs most.
    rows = sorted(rows, key=lambda row: row[1])
    rows.sort(key=lambda row: len(names[row[1]]))
    rows.sort(key=lambda row: row[0], reverse=True)
    return rows


def plain_found(names, query):
    """All that is found, in its order."""
    return plain_order(names, plain_rows(names, query))


def plain_bound(query, name):
    total = 0
    for sign in query:
        alone = [plain_points(sign, name, laying) + min(laying[0], 3) for laying in all_layings(sign, name)]
        if not alone:
            return None
        total += max(alone)
    return total + sum(7 for sign in query[1:])


def plain_found_by_bound(names, query, many):
    bounds = [(plain_bound(query, name), number) for number, name in enumerate(names)]
    ahead = sorted((-limit, number) for limit, number in bounds if limit is not None)
    for laid in range(len(ahead) + 1):
        taken = {number for limit, number in ahead[:laid]}
        first = [row for row in plain_found(names, query) if row[1] in taken][:many]
        if many == 0 or laid == len(ahead):
            return (first, laid)
        if len(first) == many and first[-1][0] > -ahead[laid][0]:
            return (first, laid)


def plain_by_words(text, name):
    """What the words count together and all their places; None, where they do not fit."""
    laid = [plain_best(word, name) for word in re.findall("[A-Za-z0-9]+", text)]
    if None in laid:
        return None
    places = {place for counted, laying in laid for place in laying}
    return (sum(counted for counted, laying in laid), [place for place in range(len(name)) if place in places])


def plain_found_by_words(names, text):
    laid = [(plain_by_words(text, name), number) for number, name in enumerate(names)]
    return plain_order(names, [(told[0], number) for told, number in laid if told is not None])


def plain_left(names, query):
    """The numbers of all names that have signs enough, found by taking those of the query out of them."""
    numbers = []
    for number, name in enumerate(names):
        exact = collections.Counter(sign for sign in query if not sign.islower())
        either = collections.Counter(query.upper())
        if not exact - collections.Counter(name) and not either - collections.Counter(name.upper()):
            numbers.append(number)
    return numbers


def plain_telling(names):
    told = []
    for number, name in enumerate(names):
        others = names[:number] + names[number + 1:]
        signs = [sign for sign in name if sign.isalnum()]
        alone = [
            (length, "".join(chosen)) for length in range(4) for chosen in itertools.combinations(signs, length)
            if not any(all_layings("".join(chosen), other) for other in others)
        ]
        told.append(min(alone)[1] if alone else None)
    return told


@functools.lru_cache(maxsize=None)
def plain_rests(query):
    """A dict of all rests with how many slips make them."""
    rests = {}
    for length in range(len(query), -1, -1):
        for chosen in itertools.combinations(query, length):
            rests.setdefault("".join(chosen), len(query) - length)
    return rests


def plain_with_slips(query, name, many):
    """All rests that fit, the best first, as tuples (points, slips, rest, laying)."""
    told = []
    for rest, slips in plain_rests(query).items():
        laid = plain_best(rest, name)
        if slips <= many and laid is not None:
            told.append((laid[0] - 15 * slips, slips, rest, laid[1]))
    return sorted(told, key=lambda row: (-row[0], row[1], row[2]))


def plain_found_with_slips(names, query, slips):
    laid = [(plain_with_slips(query, name, slips), number) for number, name in enumerate(names)]
    return plain_order(names, [(told[0][0], number) for told, number in laid if told])


# Names and queries of few signs in all their orders, and longer ones of every kind of sign.
SHORT_NAMES = [name for name in words("aAb0_", 4) if name] + ["xxx" + name for name in words("aB_", 5)]
SHORT_QUERIES = list(words("aAb0", 3))
LONG_NAMES = [
    "src/fewFind/read_me.txt",
    "HTTPServer2Http.server-2",
    "aaaaaaaaaaaaaaaaaaaaaaaa",
    "aAaAaAaAaAaAaAaA",
    "a-b_c.d/e-f_g.h/i-j_k.l/",
    "abAB12ab_AB.12/ab-AB",
    "z9Z9z9Z9",
    "_-./",
    "mississippiMISSISSIPPI",
]
LONG_QUERIES = [
    "", "s", "sf", "srcfind", "rm", "readme", "hs2", "HS2", "http", "hTTp", "httpserv", "aaaa", "aAa",
    "aaaaaaaa", "abcdefgh", "ab12", "AB12", "aB", "z9z9", "Z9", "msp", "MISS", "misSIPP", "sssssSSS", "q", "txt",
]
# Lists of names: of one kind, with some alike, with some that no query fits.
NAME_LISTS = [
    [],
    ["a"],
    ["_"],
    ["ab", "ab", "ab"],
    LONG_NAMES,
    [name for name in words("aAb", 3) if name],
    [name for name in words("ab_", 3) if name][::-1],
    ["xxa", "a", "ba", "a_b", "aB", "ab", "a", "b_a", "bA", "A", "a.B", "a9B", "AB", "xxxaxxxb", "b", "a_b", "_"],
    ["few_find", "fewFind", "few-find.py", "FewFind", "src/few/find", "ff", "fif", "fFf", "FF", "find_few", "f.f"],
]
