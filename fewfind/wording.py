"""Queries of several words, each laid by itself."""

from fewfind.finding import first_rows
from fewfind.names import fits
from fewfind.points import best


def words_of(text):
    return [word for word in text.split(" ") if word != ""]


def fit_words(text, name):
    return all([fits(word, name) for word in words_of(text)])


def best_by_words(text, name):
    if not fit_words(text, name):
        return None
    return [best(word, name) for word in words_of(text)]


def points_by_words(text, name):
    laid = best_by_words(text, name)
    if laid is None:
        return None
    return sum([counted for counted, places in laid])


def found_by_words(names, text, many):
    rows = [(points_by_words(text, name), number) for number, name in enumerate(names)]
    return first_rows(names, [row for row in rows if row[0] is not None], many)


def places_by_words(text, name):
    laid = best_by_words(text, name)
    if laid is None:
        return None
    together = []
    for counted, places in laid:
        together.extend(places)
    # Words do not see one another, so they may share places.
    return sorted(set(together))
