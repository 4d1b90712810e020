"""Names with how often they were picked, written and read."""

from fewfind.errors import NoText
from fewfind.names import FIGURES, is_name

MOST_FIGURES = 6


def written(rows):
    return "".join([f"{count} {name}\n" for name, count in rows])


def lines_of(text):
    if text == "":
        return []
    if not text.endswith("\n"):
        raise NoText("the last line is not ended")
    return text[:-1].split("\n")


def read_number(figures):
    if len(figures) < 1 or len(figures) > MOST_FIGURES:
        raise NoText("this is no number of so few figures")
    if not all([sign in FIGURES for sign in figures]):
        raise NoText("a number has figures alone")
    if figures[0] == "0" and len(figures) > 1:
        raise NoText("a number has no noughts ahead")
    return int(figures)


def read_row(line):
    # Behind the first blank is all the rest, so that a second one stands in what is then no name.
    parts = line.partition(" ")
    if not is_name(parts[2]):
        raise NoText("no name stands behind the count")
    return (parts[2], read_number(parts[0]))


def read(text):
    return [read_row(line) for line in lines_of(text)]
