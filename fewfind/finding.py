"""The best of many names for a query."""

from fewfind.errors import NoNumber
from fewfind.points import best


def fitting_rows(names, query, numbers):
    rows = []
    for number in numbers:
        laid = best(query, names[number])
        if laid is not None:
            rows.append((laid[0], number))
    return rows


def in_order(names, rows):
    return sorted(rows, key=lambda row: (-row[0], len(names[row[1]]), row[1]))


def first_rows(names, rows, many):
    # A slice up to a number below 0 would leave out the last rows only.
    return in_order(names, rows)[:max(many, 0)]


def all_rows(names, query):
    return fitting_rows(names, query, list(range(len(names))))


def finds(names, query, many):
    return first_rows(names, all_rows(names, query), many)


def check_number(names, number):
    if number < 0 or number >= len(names):
        raise NoNumber("no name has this number")


def rank_of(names, query, number):
    check_number(names, number)
    for rank, row in enumerate(in_order(names, all_rows(names, query))):
        if row[1] == number:
            return rank
    return None


def ties(names, query):
    # Rows come by rising numbers, and so each list of numbers rises.
    numbers = {}
    for row in all_rows(names, query):
        if row[0] not in numbers:
            numbers[row[0]] = []
        numbers[row[0]].append(row[1])
    return [(count, numbers[count]) for count in sorted(numbers, reverse=True)]
