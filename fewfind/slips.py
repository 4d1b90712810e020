"""Queries with signs too many."""

from fewfind.finding import first_rows
from fewfind.names import fits
from fewfind.points import best

EACH_SLIP = 15


def shorter_rests(rests):
    # A dict, as a rest may be made in several ways.
    shorter = {}
    for rest in rests:
        for place in range(len(rest)):
            shorter[rest[:place] + rest[place + 1:]] = True
    return sorted(shorter)


def least_slips(query, name):
    slips = 0
    rests = [query]
    # The rest without signs fits every name, so this comes to an end.
    while not any([fits(rest, name) for rest in rests]):
        rests = shorter_rests(rests)
        slips += 1
    return slips


def best_with_slips(query, name, many):
    chosen = None
    rests = [query]
    for slips in range(min(many, len(query)) + 1):
        for rest in rests:
            laid = best(rest, name)
            # Rests of fewer slips come first, then lesser ones, and so stay where points are like.
            if laid is not None and (chosen is None or laid[0] - EACH_SLIP * slips > chosen[0]):
                chosen = (laid[0] - EACH_SLIP * slips, rest, laid[1])
        rests = shorter_rests(rests)
    return chosen


def finds_with_slips(names, query, slips, many):
    laid = [best_with_slips(query, name, slips) for name in names]
    rows = [(told[0], number) for number, told in enumerate(laid) if told is not None]
    return first_rows(names, rows, many)
