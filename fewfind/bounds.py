"""Bounds of what queries can count in names, and names that need not be laid for them."""

from fewfind.finding import first_rows, fitting_rows
from fewfind.names import meets
from fewfind.points import BESIDE, own_points


def most_of_sign(sign, name):
    return max(
        [own_points(sign, name, place) for place in range(len(name)) if meets(sign, name[place])], default=None
    )


def bound(query, name):
    total = 0
    for number, sign in enumerate(query):
        most = most_of_sign(sign, name)
        if most is None:
            return None
        total += most
        if number > 0:
            total += BESIDE
    return total


def by_bounds(names, query):
    rows = [(bound(query, name), number) for number, name in enumerate(names)]
    return sorted([row for row in rows if row[0] is not None], key=lambda row: (-row[0], row[1]))


def are_enough(rows, many, limit):
    return len([row for row in rows if row[0] > limit]) >= many


def found_by_bound(names, query, many):
    rows = []
    laid = 0
    for limit, number in by_bounds(names, query):
        # No name from here on counts more than this limit, so none comes among the first.
        if are_enough(rows, many, limit):
            break
        rows.extend(fitting_rows(names, query, [number]))
        laid += 1
    return (first_rows(names, rows, many), laid)
