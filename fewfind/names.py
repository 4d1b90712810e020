"""Names, queries, and the layings of queries in names."""

from fewfind.errors import NoFit

# Written out, as Python's own isalpha and isdigit also take signs that are none here.
SMALL = "abcdefghijklmnopqrstuvwxyz"
GREAT = "ABCDEFGHIJKLMNOPQRSTUVWXYZ"
FIGURES = "0123456789"
MARKS = "_-./"
LONGEST_NAME = 24
LONGEST_QUERY = 8


def is_query_sign(sign):
    return sign in SMALL or sign in GREAT or sign in FIGURES


def is_name_sign(sign):
    return is_query_sign(sign) or sign in MARKS


def is_name(thing):
    if not isinstance(thing, str):
        return False
    if len(thing) < 1 or len(thing) > LONGEST_NAME:
        return False
    return all([is_name_sign(sign) for sign in thing])


def is_query(thing):
    if not isinstance(thing, str):
        return False
    if len(thing) > LONGEST_QUERY:
        return False
    return all([is_query_sign(sign) for sign in thing])


def meets(sign, other):
    # Only small letters reach beyond themselves: a great letter in a query asks for just that one.
    return sign == other or (sign in SMALL and sign.upper() == other)


def is_whole(thing):
    # Python counts True and False among the ints.
    return isinstance(thing, int) and not isinstance(thing, bool)


def are_rising_places(name, things):
    least = 0
    for thing in things:
        if not is_whole(thing):
            return False
        if thing < least or thing >= len(name):
            return False
        least = thing + 1
    return True


def is_laying(query, name, thing):
    if not isinstance(thing, list) or len(thing) != len(query):
        return False
    if not are_rising_places(name, thing):
        return False
    return all([meets(sign, name[place]) for sign, place in zip(query, thing)])


def earliest_places(query, name):
    # Taking each sign as early as can be leaves the most room for those behind it,
    # so where not all signs of the query are placed here, no laying has them all.
    places = []
    for place in range(len(name)):
        if len(places) < len(query) and meets(query[len(places)], name[place]):
            places.append(place)
    return places


def fits(query, name):
    return len(earliest_places(query, name)) == len(query)


def first_laying(query, name):
    places = earliest_places(query, name)
    if len(places) < len(query):
        raise NoFit("the query has no laying in the name")
    return places


def last_laying(query, name):
    # Read from its end, the last laying is the first one.
    mirrored = first_laying(query[::-1], name[::-1])
    return [len(name) - 1 - place for place in reversed(mirrored)]


def how_many(query, name):
    # ways[length]: the layings of so many first signs of the query in what was walked of the name.
    ways = [1] + [0] * len(query)
    for sign in name:
        # Longer beginnings first, so that one sign of the name is not taken twice.
        for length in range(len(query), 0, -1):
            if meets(query[length - 1], sign):
                ways[length] = ways[length] + ways[length - 1]
    return ways[len(query)]
