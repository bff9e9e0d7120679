"""What is known at the rows of a function, and the forms to which its variables are expanded there."""

from juststeps.forms import ONE, combined
from juststeps.measures import rows_by_maker
from juststeps.rows import ENDING, goes_on

WHOLES = ("num", "add", "sub", "times")


class Ground:
    """What holds at all rows of a function: the measures' rows, the rows that reckon integers, and roots."""

    def __init__(self, core, measures, function):
        self.by_maker = rows_by_maker(core, measures)
        self.reckoned = {row[1]: row for row in function[3] if row[0] in WHOLES}
        self.roots = {}


class Facts:
    """What is known at some rows of a function: by root the maker and the args as which it is known.

    forms has what has been expanded with it, hints is kept for what is told with it of rows on the way.
    """

    def __init__(self, ground, known):
        self.ground = ground
        self.known = known
        self.forms = {}
        self.hints = {}

    def root(self, variable):
        return self.ground.roots.get(variable, variable)

    def with_known(self, root, maker, args):
        """The facts with one more root known."""
        known = {other: self.known[other] for other in self.known}
        known[root] = (maker, args)
        return Facts(self.ground, known)

    def expanded(self, variable, number):
        """The form of the measure with the number of the variable's value."""
        wanted = (self.root(variable), number)
        waiting = [wanted]
        while waiting:
            pair = waiting.pop()
            if pair not in self.forms:
                missing = self.expand(pair)
                if missing:
                    waiting.append(pair)
                    waiting.extend(missing)
        return self.forms[wanted]

    def expand(self, pair):
        """Keeps the form of a root and a number, if all that it needs is there; returns what is missing."""
        found = self.made_of(pair)
        if found is None:
            self.forms[pair] = (0, (((0,) + pair, 1),))
            return []
        const, inner = found
        missing = [each for _, each in inner if each not in self.forms]
        if not missing:
            self.forms[pair] = combined([(const, ONE)] + [(times, self.forms[each]) for times, each in inner])
        return missing

    def made_of(self, pair):
        """(const, what makes up the measure: times and pairs); None if it is not told by others."""
        variable, number = pair
        if number == 0:
            return self.whole_made_of(variable)
        if variable not in self.known:
            return None
        maker, args = self.known[variable]
        const, terms = self.ground.by_maker[(number, maker)]
        return const, [(times, (self.root(args[field]), inner)) for field, inner, times in terms]

    def whole_made_of(self, variable):
        row = self.ground.reckoned.get(variable)
        if row is None:
            return None
        if row[0] == "num":
            return row[2], []
        left = (self.root(row[2]), 0)
        if row[0] == "times":
            return 0, [(row[3], left)]
        return 0, [(1, left), (1 if row[0] == "add" else -1, (self.root(row[3]), 0))]


class Spot:
    """A row that is not idle, with the way to it and what is known there; hints is kept for the hints there."""

    def __init__(self, at, row, way, facts):
        self.at = at
        self.row = row
        self.way = way
        self.facts = facts
        self.hints = None


def spots_of(core, measures, function):
    """The rows of a function that are not idle, in their sequence."""
    rows = function[3]
    spots = []
    coming = {0: ((), Facts(Ground(core, measures, function), {}))}
    for at, row in enumerate(rows):
        if at in coming:
            ahead, facts = coming[at]
            spot = Spot(at, row, ahead + (at,), facts)
            spots.append(spot)
            for there, known in _onward(spot):
                coming[there] = (spot.way, known)
    return spots


def _onward(spot):
    """The rows that the spot's row goes on to, those that are idle left out, each with what is known there.

    Facts are shared by rows as long as no value that was bound ahead becomes known: what a make row makes
    known is a variable of which nothing has been expanded yet, and which other branches do not have.
    """
    at, row, facts = spot.at, spot.row, spot.facts
    if row[0] in ENDING:
        return []
    if row[0] == "less":
        return [(there, facts) for there in _ways_of_less(spot)]
    if row[0] == "match":
        return _branches(row, facts)
    if row[0] == "make":
        facts.known[row[1]] = row[2:]
    return [(there, facts) for there in goes_on(row, at)]


def _ways_of_less(spot):
    """The rows that a less goes on to: only one if its sides differ by a number alone."""
    _, a, b, j = spot.row
    const, terms = combined([(1, spot.facts.expanded(a, 0)), (-1, spot.facts.expanded(b, 0))])
    if terms:
        return [spot.at + 1, j]
    return [spot.at + 1] if const < 0 else [j]


def _branches(row, facts):
    """The branches that a match goes into: only one if it is known what is matched."""
    root = facts.root(row[1])
    if root not in facts.known:
        return [(start, facts.with_known(root, maker, variables)) for maker, variables, start in row[2]]
    known, args = facts.known[root]
    for maker, variables, start in row[2]:
        if maker == known:
            for variable, arg in zip(variables, args):
                facts.ground.roots[variable] = facts.root(arg)
            return [(start, facts)]
    return []
