"""Code of light functions: each needed variable has a register of its own, and there is no frame.

At most six variables are needed at a row, so two of the eight registers are left: for what the row makes, and for
what passes by.
"""

from juststeps.coding import Coder
from juststeps.plaincode import maker_indexes

REGISTERS = 8
SPARE = 7


def light_coder(core, function, needed):
    """The code of a light function of the core, with what is needed at its rows."""
    writer = LightWriter(core, function, needed)
    for at, row in enumerate(function[3]):
        writer.coder.begin(at)
        writer.row(at, row)
    return writer.coder


def wishes_of(rows):
    """For variables the registers in which a give or go wants them, the first such row being heard."""
    wishes = {}
    for row in rows[::-1]:
        if row[0] == "give":
            wishes[row[1]] = 0
        elif row[0] == "go":
            for place, variable in enumerate(row[2]):
                wishes[variable] = place
    return wishes


class LightWriter:
    """Writes the code of rows; places has the registers of the variables that are needed at the row at hand.

    ahead has, for rows that are still to come, what places will be, and the register of the thing of a match with
    the variables that its words are to have, if the row begins a branch of one.
    """

    def __init__(self, core, function, needed):
        self.indexes = maker_indexes(core)
        self.rows = function[3]
        self.needed = needed
        self.wishes = wishes_of(self.rows)
        self.coder = Coder()
        self.places = {}
        self.ahead = {0: (self.kept({param: param for param in range(len(function[1]))}, 0), 0, ())}

    def kept(self, places, at):
        """Of places what is needed at a row."""
        return {variable: places[variable] for variable in places if variable in self.needed[at]}

    def row(self, at, row):
        self.places, thing, variables = self.ahead[at]
        self.take_words(at, thing, variables)
        action = ACTIONS[row[0]]
        action(self, row, at)

    def go_on(self, places, at, thing=0, variables=()):
        """What is known when the row at an index comes."""
        self.ahead[at] = (self.kept(places, at), thing, variables)

    def free(self, taken, variable):
        """A register that is not among those taken, the one that the variable wishes if it may be."""
        wish = self.wishes.get(variable, SPARE)
        if wish not in taken:
            return wish
        return [r for r in range(REGISTERS) if r not in taken][0]

    def take_words(self, at, thing, variables):
        """Takes the words of a branch's thing into registers, those for the needed variables alone."""
        early = []
        late = []
        for o, variable in enumerate(variables, start=1):
            if variable in self.needed[at]:
                # The thing's own register comes last, for the others are taken out of it.
                wanted = late if self.wishes.get(variable, SPARE) == thing else early
                wanted.append((o, variable))
        for many, (o, variable) in enumerate(early + late, start=1):
            taken = [self.places[other] for other in self.places]
            if many < len(early) + len(late):
                taken.append(thing)
            r = self.free(taken, variable)
            self.coder.write("take", r, thing, o)
            self.places[variable] = r

    def bind(self, at, x, barred):
        """A register for the x of the row at an index, none of those barred; None if x is not needed behind."""
        if x not in self.needed[at + 1]:
            self.go_on(self.places, at + 1)
            return None
        places = self.kept(self.places, at + 1)
        r = self.free([places[variable] for variable in places] + barred, x)
        places[x] = r
        self.go_on(places, at + 1)
        return r

    def told(self, variables):
        return [self.places[variable] for variable in variables]

    def move(self, sources):
        """Brings what is in the sources into the registers 0, 1, .., where nothing else is needed any more."""
        waiting = {target: source for target, source in enumerate(sources) if target != source}
        while waiting:
            wanted = [waiting[target] for target in waiting]
            ready = [target for target in waiting if target not in wanted]
            if not ready:
                # All that wait go round among the first six registers, so that the last one is spare.
                target = wanted[0]
                self.coder.write("copy", SPARE, target)
                waiting = {other: SPARE if waiting[other] == target else waiting[other] for other in waiting}
                ready = [target]
            self.coder.write("copy", ready[0], waiting[ready[0]])
            del waiting[ready[0]]


def _num(writer, row, at):
    r = writer.bind(at, row[1], [])
    if r is not None:
        writer.coder.write("set", r, row[2])


def _sum(writer, row, at):
    r = writer.bind(at, row[1], [])
    if r is not None:
        writer.coder.write(row[0], r, writer.places[row[2]], writer.places[row[3]])


def _times(writer, row, at):
    r = writer.bind(at, row[1], [])
    if r is not None:
        writer.coder.write("times", r, writer.places[row[2]], row[3])


def _make(writer, row, at):
    _, x, maker, args = row
    sources = writer.told(args)
    r = writer.bind(at, x, sources)
    if r is None:
        return
    writer.coder.write("new", r, 1 + len(args))
    index = writer.indexes[maker]
    # The words of a new thing are 0, so that the first maker's index stands there already.
    if index > 0:
        places = writer.ahead[at + 1][0]
        spare = writer.free([places[variable] for variable in places] + sources, None)
        writer.coder.write("set", spare, index)
        writer.coder.write("put", r, 0, spare)
    for o, source in enumerate(sources, start=1):
        writer.coder.write("put", r, o, source)


def _less(writer, row, at):
    writer.coder.write("less", writer.places[row[1]], writer.places[row[2]], row[3])
    writer.go_on(writer.places, at + 1)
    writer.go_on(writer.places, row[3])


def _match(writer, row, _):
    _, matched, branches = row
    thing = writer.places[matched]
    # A thing whose kind has one maker is known, so that there is nothing to choose.
    if len(branches) > 1:
        spare = writer.free([writer.places[variable] for variable in writer.places], None)
        writer.coder.write("take", spare, thing, 0)
        writer.coder.write("table", spare, tuple([start for _, _, start in branches]))
    for _, variables, start in branches:
        writer.go_on(writer.places, start, thing, variables)


def _give(writer, row, _):
    writer.move(writer.told(row[1:]))
    writer.coder.write("return")


def _go(writer, row, _):
    writer.move(writer.told(row[2]))
    writer.coder.write("go", row[1])


ACTIONS = {
    "num": _num,
    "add": _sum,
    "sub": _sum,
    "times": _times,
    "make": _make,
    "less": _less,
    "match": _match,
    "give": _give,
    "go": _go,
}
