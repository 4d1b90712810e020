"""Trails of queries asked and names picked, which go back and forth."""

from fewfind.errors import NoNumber
from fewfind.finding import finds
from fewfind.names import fits

ASK = "ask"
PICK = "pick"


class Trail:
    def __init__(self, names):
        self.names = list(names)
        # All else is told by the steps, so going back and forth moves a step and nothing more.
        self.done = []
        self.undone = []

    def step(self, kind, thing):
        self.done.append((kind, thing))
        self.undone = []

    def ask(self, query):
        self.step(ASK, query)
        return len([name for name in self.names if fits(query, name)])

    def pick(self, place):
        rows = finds(self.names, self.asked(), len(self.names))
        if place < 0 or place >= len(rows):
            raise NoNumber("nothing is found at this place")
        number = rows[place][1]
        self.step(PICK, number)
        return number

    def asked(self):
        if len(self.done) > 0 and self.done[-1][0] == ASK:
            return self.done[-1][1]
        return ""

    def chosen(self):
        picks = []
        query = ""
        for kind, thing in self.done:
            if kind == PICK:
                picks.append((query, thing))
            query = thing if kind == ASK else ""
        return picks

    def steps(self):
        return [(kind, thing) for kind, thing in self.done]

    def back(self):
        if len(self.done) == 0:
            raise NoNumber("no step can be taken back")
        self.undone.append(self.done.pop())
        return self.undone[-1][0]

    def forth(self):
        if len(self.undone) == 0:
            raise NoNumber("no step can be done again")
        self.done.append(self.undone.pop())
        return self.done[-1][0]

    def sizes(self):
        return (len(self.done), len(self.undone))

    def twin(self):
        other = Trail(self.names)
        other.done = list(self.done)
        other.undone = list(self.undone)
        return other
