"""Names that count more as they were picked."""

from fewfind.finding import all_rows, check_number, first_rows

EACH_PICK = 2
MOST_PICKS = 5
PICKED_LAST = 3


class Chooser:
    def __init__(self, names):
        self.names = list(names)
        self.picks = [0] * len(names)
        self.latest = None

    def pick(self, number):
        check_number(self.names, number)
        self.picks[number] += 1
        self.latest = number

    def forget(self, number):
        check_number(self.names, number)
        self.picks[number] = 0
        if self.latest == number:
            self.latest = None

    def picked(self, number):
        check_number(self.names, number)
        return self.picks[number]

    def more_points(self, number):
        last = PICKED_LAST if self.latest == number else 0
        return EACH_PICK * min(self.picks[number], MOST_PICKS) + last

    def found(self, query, many):
        rows = [(counted + self.more_points(number), number) for counted, number in all_rows(self.names, query)]
        return first_rows(self.names, rows, many)

    def usual(self, many):
        rows = [(number, picks) for number, picks in enumerate(self.picks) if picks > 0]
        return sorted(rows, key=lambda row: (-row[1], row[0]))[:max(many, 0)]
