"""Names left by the signs they have, and the least queries that tell names from one another."""

from fewfind.names import FIGURES, GREAT, SMALL, is_query_sign

MOST_TELLING = 3


def sign_counts(text):
    counts = {}
    for sign in text:
        counts[sign] = counts.get(sign, 0) + 1
    return counts


def small_and_great(counts, letter):
    return counts.get(letter.lower(), 0) + counts.get(letter.upper(), 0)


def has_enough(counts, asked):
    for sign in asked:
        # A small letter is met by its great one, too, and so asks for nothing by itself.
        if sign not in SMALL and counts.get(sign, 0) < asked[sign]:
            return False
        if sign not in FIGURES and small_and_great(counts, sign) < small_and_great(asked, sign):
            return False
    return True


class Sieve:
    def __init__(self, names):
        self.counts = [sign_counts(name) for name in names]

    def left(self, query):
        asked = sign_counts(query)
        return [number for number, counts in enumerate(self.counts) if has_enough(counts, asked)]

    def add(self, name):
        self.counts.append(sign_counts(name))
        return len(self.counts) - 1

    def signs(self):
        having = {}
        for counts in self.counts:
            for sign in counts:
                having[sign] = having.get(sign, 0) + 1
        return sorted(having.items())


# choices: for each place of a name the signs of queries that are laid there.


def own_signs(sign):
    return [sign] if is_query_sign(sign) else []


def meeting_signs(sign):
    if sign in GREAT:
        return [sign.lower(), sign]
    return own_signs(sign)


def longer_queries(ends, choices):
    # ends: for each query the place behind its first laying. From there on each sign is taken
    # where it comes first, so each longer query comes once, and with its first laying again.
    longer = {}
    for query in ends:
        for place in range(ends[query], len(choices)):
            for sign in choices[place]:
                if query + sign not in longer:
                    longer[query + sign] = place + 1
    return longer


def all_queries(choices, length):
    ends = {"": 0}
    for number in range(length):
        ends = longer_queries(ends, choices)
    return list(ends)


def fitted_names(names, length):
    fitted = {}
    for name in names:
        for query in all_queries([meeting_signs(sign) for sign in name], length):
            fitted[query] = fitted.get(query, 0) + 1
    return fitted


def least_alone(name, length, fitted):
    queries = all_queries([own_signs(sign) for sign in name], length)
    return min([query for query in queries if fitted[query] == 1], default=None)


def telling(names):
    told = [None] * len(names)
    for length in range(MOST_TELLING + 1):
        fitted = fitted_names(names, length)
        for number, name in enumerate(names):
            if told[number] is None:
                told[number] = least_alone(name, length, fitted)
    return told
