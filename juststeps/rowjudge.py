"""Judges the rows of a core's function: their words, kinds, variables and layout."""

from juststeps.kinds import makers_by_kind, makers_by_name
from juststeps.names import WHOLE, first_word, is_between, is_factor, is_integer, is_number, is_tuple

MOST_ROWS = 240
MOST_VARIABLE = 399


class World:
    """What rows may name: kinds, makers and functions, the latter by their heads."""

    def __init__(self, kinds, functions):
        self.kinds = makers_by_kind(kinds)
        self.makers = makers_by_name(kinds)
        self.heads = {function[0]: (function[1], function[2]) for function in functions}


def are_rows(world, function):
    """Whether the rows of a function, any object, are as they must be; its head is judged already."""
    if not is_tuple(function[3], 1, MOST_ROWS):
        return False
    return RowJudge(world, function).judge(function[1])


class RowJudge:
    """Goes through rows in their order, which goes through one branch after another.

    kinds has the kind of each variable that is bound anywhere so far; trail and reach have the variables that
    are bound on the way to the row at hand. waiting has the branches that are still to come, the first one last:
    the row where it begins, the length of the trail there, and the variables that it binds, with their kinds.
    """

    def __init__(self, world, function):
        self.world = world
        self.result = function[2]
        self.rows = function[3]
        self.kinds = {}
        self.trail = []
        self.reach = {}
        self.waiting = []

    def judge(self, params):
        self.bind_all(tuple(range(len(params))), params)
        for at, row in enumerate(self.rows):
            if not self.enter(at) or not self.accept(at, row):
                return False
        return True

    def enter(self, at):
        """Goes into the branch that begins at the row, if one does."""
        if not self.waiting or self.waiting[-1][0] != at:
            return True
        _, length, variables, kinds = self.waiting.pop()
        while len(self.trail) > length:
            del self.reach[self.trail.pop()]
        return self.bind_all(variables, kinds)

    def room(self):
        """The index behind the rows that can still be come to on the way at hand."""
        return self.waiting[-1][0] if self.waiting else len(self.rows)

    def accept(self, at, row):
        word = first_word(row)
        if word == "give":
            return at + 1 == self.room() and len(row) == 2 and self.kind_of(row[1]) == self.result
        if word == "go":
            return at + 1 == self.room() and len(row) == 3 and self.calls(row[1], row[2]) == self.result
        if at + 1 >= self.room():
            return False
        if word == "less":
            return self.choice(at, row)
        if word == "match":
            return self.branches(at, row)
        kind = self.kind_made(word, row)
        return kind is not None and self.bind(row[1], kind)

    def kind_made(self, word, row):
        """The kind of what a plain row or a call binds, or None if it is no such row."""
        if word == "num":
            return WHOLE if len(row) == 3 and is_number(row[2]) else None
        if word == "times":
            return WHOLE if len(row) == 4 and is_factor(row[3]) and self.is_whole(row[2]) else None
        if word in ("add", "sub"):
            return WHOLE if len(row) == 4 and self.is_whole(row[2]) and self.is_whole(row[3]) else None
        if word == "make" and len(row) == 4:
            return self.makes(row[2], row[3])
        if word == "call" and len(row) == 4:
            return self.calls(row[2], row[3])
        return None

    def makes(self, maker, given):
        """The kind that the maker makes of the given variables, or None."""
        if not isinstance(maker, str) or maker not in self.world.makers:
            return None
        kind, fields = self.world.makers[maker]
        return kind if self.are_of(given, fields) else None

    def calls(self, name, given):
        """The kind that the function gives for the given variables, or None."""
        if not isinstance(name, str) or name not in self.world.heads:
            return None
        params, result = self.world.heads[name]
        return result if self.are_of(given, params) else None

    def choice(self, at, row):
        if len(row) != 4 or not self.is_whole(row[1]) or not self.is_whole(row[2]):
            return False
        if not is_between(row[3], at + 2, self.room() - 1):
            return False
        self.waiting.append((row[3], len(self.trail), (), ()))
        return True

    def branches(self, at, row):
        if len(row) != 3:
            return False
        kind = self.kind_of(row[1])
        if kind is None or kind == WHOLE:
            return False
        makers = self.world.kinds[kind]
        if not is_tuple(row[2], len(makers), len(makers)):
            return False
        least = at + 1
        coming = []
        for maker, branch in zip(makers, row[2]):
            if not is_branch(branch, maker) or not is_between(branch[2], least, self.room() - 1):
                return False
            least = branch[2] + 1
            coming.append((branch[2], len(self.trail), branch[1], maker[1]))
        self.waiting.extend(coming[::-1])
        return coming[0][0] == at + 1

    def kind_of(self, variable):
        """The kind of a variable that is in reach; None for any other object."""
        if not is_integer(variable) or variable not in self.reach:
            return None
        return self.kinds[variable]

    def is_whole(self, variable):
        return self.kind_of(variable) == WHOLE

    def are_of(self, given, kinds):
        """Whether it is a tuple of variables in reach that are of the kinds."""
        if not is_tuple(given, len(kinds), len(kinds)):
            return False
        return [self.kind_of(variable) for variable in given] == list(kinds)

    def bind(self, variable, kind):
        if not is_between(variable, 0, MOST_VARIABLE) or variable in self.kinds:
            return False
        self.kinds[variable] = kind
        self.trail.append(variable)
        self.reach[variable] = True
        return True

    def bind_all(self, variables, kinds):
        return all([self.bind(variable, kind) for variable, kind in zip(variables, kinds)])


def is_branch(thing, maker):
    """Whether any object has the form of a branch for the maker; its row and variables are judged later."""
    if not is_tuple(thing, 3, 3) or first_word(thing) != maker[0]:
        return False
    return is_tuple(thing[1], len(maker[1]), len(maker[1]))
