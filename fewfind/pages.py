"""What is found on pages, with one name pointed at."""

from fewfind.errors import NoNumber
from fewfind.finding import finds


class Pager:
    def __init__(self, names, size):
        self.names = list(names)
        # A page without room would never come to the rows.
        self.size = max(size, 1)
        self.rows = finds(self.names, "", len(self.names))
        # The place of the row pointed at; where nothing is found, no row stands there.
        self.place = 0

    def ask(self, query):
        ahead = self.pointed()
        self.rows = finds(self.names, query, len(self.names))
        self.place = 0
        for place, row in enumerate(self.rows):
            if ahead is not None and row[1] == ahead[1]:
                self.place = place

    def pointed(self):
        if len(self.rows) == 0:
            return None
        row = self.rows[self.place]
        return (row[0], row[1])

    def move(self, by):
        if len(self.rows) == 0:
            raise NoNumber("nothing is found")
        self.place = (self.place + by) % len(self.rows)
        return self.pointed()

    def page(self):
        first = self.place // self.size * self.size
        return [(counted, number) for counted, number in self.rows[first:first + self.size]]

    def pages(self):
        return (len(self.rows) + self.size - 1) // self.size

    def turn(self, by):
        number = self.place // self.size + by
        if number < 0 or number >= self.pages():
            raise NoNumber("there is no such page")
        self.place = number * self.size
        return self.page()
