"""Reads a list of calls from its first number to its last."""


# Keeps a place in the list, so that the list itself is only looked at.
class Reader:
    def __init__(self, calls):
        self.calls = calls
        self.place = 0

    def at_end(self):
        return self.place == len(self.calls)

    def read_number(self):
        number = self.calls[self.place]
        self.place += 1
        return number

    def read_numbers(self, how_many):
        numbers = []
        for turn in range(how_many):
            numbers.append(self.read_number())
        return numbers

    def read_rows(self, how_many):
        rows = []
        for turn in range(how_many):
            rows.append(self.read_numbers(self.read_number()))
        return rows
