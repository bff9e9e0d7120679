"""Runs of a core's functions, row after row."""


class Run:
    """A run at one of its rows.

    worth has the values of the variables that are bound; callers has the open calls, for each one the function's
    place, the call's row and its worth; trail has the places of the functions and the rows that were passed.
    """

    def __init__(self, core, place, given):
        self.functions = core[1]
        self.places = {function[0]: at for at, function in enumerate(core[1])}
        self.callers = []
        self.trail = []
        self.place = place
        self.row = 0
        self.worth = dict(enumerate(given))
        self.ended = False
        self.value = None

    def rows_here(self):
        return self.functions[self.place][3]

    def step(self):
        """Passes one row."""
        row = self.rows_here()[self.row]
        self.trail.append((self.place, self.row))
        word = row[0]
        if word == "less":
            self.row = self.row + 1 if self.worth[row[1]] < self.worth[row[2]] else row[3]
        elif word == "match":
            self.branch(self.worth[row[1]], row[2])
        elif word == "call":
            self.callers.append((self.place, self.row, self.worth))
            self.begin(row[2], row[3])
        elif word == "go":
            self.begin(row[1], row[2])
        elif word == "give":
            self.give(self.worth[row[1]])
        else:
            self.worth[row[1]] = self.made(row)
            self.row += 1

    def made(self, row):
        """The value that a plain row binds."""
        word = row[0]
        if word == "num":
            return row[2]
        if word == "add":
            return self.worth[row[2]] + self.worth[row[3]]
        if word == "sub":
            return self.worth[row[2]] - self.worth[row[3]]
        if word == "times":
            return self.worth[row[2]] * row[3]
        return (row[2],) + self.told(row[3])

    def told(self, variables):
        return tuple([self.worth[variable] for variable in variables])

    def branch(self, value, branches):
        for maker, variables, start in branches:
            if maker == value[0]:
                self.row = start
                for variable, part in zip(variables, value[1:]):
                    self.worth[variable] = part

    def begin(self, name, variables):
        given = self.told(variables)
        self.place = self.places[name]
        self.row = 0
        self.worth = dict(enumerate(given))

    def give(self, value):
        if not self.callers:
            self.ended = True
            self.value = value
            return
        self.place, self.row, self.worth = self.callers.pop()
        self.worth[self.rows_here()[self.row][1]] = value
        self.row += 1


def run_of(core, place, given, limit):
    """The run that is ended, or cut behind as many rows as the limit says."""
    run = Run(core, place, given)
    while not run.ended and len(run.trail) < limit:
        run.step()
    return run
