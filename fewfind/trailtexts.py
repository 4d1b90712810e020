"""Trails written as texts, and read."""

from fewfind.errors import NoText
from fewfind.finding import finds
from fewfind.names import is_query
from fewfind.trails import ASK, Trail
from fewfind.writing import lines_of, read_number

ASKED = "? "
PICKED = "= "


def step_line(kind, thing):
    beginning = ASKED if kind == ASK else PICKED
    return f"{beginning}{thing}\n"


def trail_text(trail):
    return "".join([step_line(kind, thing) for kind, thing in trail.steps()])


def ask_again(trail, query):
    if not is_query(query):
        raise NoText("this is no query")
    trail.ask(query)


def pick_again(trail, names, number):
    numbers = [row[1] for row in finds(names, trail.asked(), len(names))]
    if number not in numbers:
        raise NoText("this number is not found by the query asked then")
    trail.pick(numbers.index(number))


def read_trail(names, text):
    trail = Trail(names)
    for line in lines_of(text):
        if line.startswith(ASKED):
            ask_again(trail, line[len(ASKED):])
        elif line.startswith(PICKED):
            pick_again(trail, names, read_number(line[len(PICKED):]))
        else:
            raise NoText("this line is no step")
    return trail
