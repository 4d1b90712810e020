"""What layings count, and the best one of a query in a name."""

from fewfind.errors import NoLaying
from fewfind.names import FIGURES, GREAT, MARKS, SMALL, is_laying, meets

EACH_PLACE = 10
AT_BEGINNING = 8
BEHIND_MARK = 6
AT_GREAT = 5
SAME_SIGN = 1
MOST_AHEAD = 3
BESIDE = 7
MOST_BETWEEN = 5


def beginning_points(name, place):
    if place == 0:
        return AT_BEGINNING
    ahead = name[place - 1]
    if ahead in MARKS:
        return BEHIND_MARK
    if name[place] in GREAT and (ahead in SMALL or ahead in FIGURES):
        return AT_GREAT
    return 0


def own_points(sign, name, place):
    same = SAME_SIGN if name[place] == sign else 0
    return EACH_PLACE + beginning_points(name, place) + same


def lead_points(place):
    return -min(place, MOST_AHEAD)


def link_points(ahead, place):
    between = place - ahead - 1
    if between == 0:
        return BESIDE
    return -min(between, MOST_BETWEEN)


def points(query, name, laying):
    if not is_laying(query, name, laying):
        raise NoLaying("this is no laying of the query in the name")
    total = 0
    for number in range(len(laying)):
        place = laying[number]
        total += own_points(query[number], name, place)
        if number == 0:
            total += lead_points(place)
        else:
            total += link_points(laying[number - 1], place)
    return total


# A tail is a tuple (points, places) for the signs of the query from some sign on. What its
# first place counts by what is ahead of it is left out, as that depends on the sign ahead.


def first_of_most(tails):
    # Tails come by rising first places, so the first one with the most points is the least.
    chosen = None
    for tail in tails:
        if chosen is None or tail[0] > chosen[0]:
            chosen = tail
    return chosen


def last_sign_tails(sign, name):
    return [(own_points(sign, name, place), [place]) for place in range(len(name)) if meets(sign, name[place])]


def linked_tails(place, tails):
    return [(tail[0] + link_points(place, tail[1][0]), tail[1]) for tail in tails if tail[1][0] > place]


def longer_tails(sign, name, tails):
    # For each first place one tail is enough: what comes ahead of it sees no more than that place.
    longer = []
    for place in range(len(name)):
        if meets(sign, name[place]):
            chosen = first_of_most(linked_tails(place, tails))
            if chosen is not None:
                longer.append((own_points(sign, name, place) + chosen[0], [place] + chosen[1]))
    return longer


def best(query, name):
    if len(query) == 0:
        return (0, [])
    tails = last_sign_tails(query[-1], name)
    for number in range(len(query) - 2, -1, -1):
        tails = longer_tails(query[number], name, tails)
    return first_of_most([(tail[0] + lead_points(tail[1][0]), tail[1]) for tail in tails])
