"""Names that are left while one types."""

from fewfind.errors import NoLetter, NoNumber
from fewfind.finding import first_rows, fitting_rows
from fewfind.names import LONGEST_QUERY, fits, is_query_sign


def without(number, level):
    return [kept for kept in level if kept != number]


class Seeker:
    def __init__(self, names):
        self.names = list(names)
        self.query = ""
        # levels[length]: the rising numbers of the names that so many first signs of the query
        # fit. They are kept, so that going back looks at no name again.
        self.levels = [list(range(len(names)))]
        self.looks = 0

    def letter(self, sign):
        if len(sign) != 1 or not is_query_sign(sign):
            raise NoLetter("this is not one sign of a query")
        if len(self.query) >= LONGEST_QUERY:
            raise NoLetter("no more signs can be typed")
        self.query = self.query + sign
        # A name that did not fit ahead of this sign does not fit with it.
        ahead = self.levels[-1]
        self.looks += len(ahead)
        self.levels.append([number for number in ahead if fits(self.query, self.names[number])])
        return len(self.levels[-1])

    def back(self):
        if len(self.query) == 0:
            raise NoLetter("no sign is typed")
        self.query = self.query[:-1]
        self.levels.pop()
        return len(self.levels[-1])

    def typed(self):
        return self.query

    def fitting(self):
        return list(self.levels[-1])

    def now(self, many):
        return first_rows(self.names, fitting_rows(self.names, self.query, self.levels[-1]), many)

    def add(self, name):
        number = len(self.names)
        self.names.append(name)
        self.levels[0].append(number)
        for length in range(1, len(self.query) + 1):
            self.looks += 1
            if not fits(self.query[:length], name):
                break
            self.levels[length].append(number)
        return number

    def hide(self, number):
        # The query without signs fits all names but the hidden ones.
        if number not in self.levels[0]:
            raise NoNumber("no name has this number, or it is hidden")
        self.levels = [without(number, level) for level in self.levels]

    def looked(self):
        return self.looks
