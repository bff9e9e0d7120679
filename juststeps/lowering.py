"""Lowers a checked program to its core."""

from juststeps.checks import checked


def lowered(program):
    """The core of a checked program."""
    checked(program)
    return program[0], tuple(_lowered_function(function) for function in program[1])


def _lowered_function(function):
    name, params, result, body = function
    lowerer = Lowerer(len(params))
    lowerer.body(body, {param: at for at, (param, _) in enumerate(params)})
    return name, tuple(kind for _, kind in params), result, tuple(lowerer.rows)


class Lowerer:
    """Makes the rows of one function; fresh is the least integer above all variables that are bound so far."""

    def __init__(self, fresh):
        self.fresh = fresh
        self.rows = []

    def bind(self):
        """The next variable."""
        self.fresh += 1
        return self.fresh - 1

    def body(self, body, names):
        """Makes the rows of a body; names has the variables for which the names in reach stand."""
        word = body[0]
        if word == "let":
            told = self.tell(body[2], names)
            self.body(body[3], {**names, body[1]: told})
        elif word == "if":
            self.choice(body, names)
        elif word == "match":
            self.branches(body, names)
        else:
            self.rows.append(("give", self.tell(body[1], names)))

    def choice(self, body, names):
        low = self.tell(body[1], names)
        high = self.tell(body[2], names)
        at = len(self.rows)
        # The place of the less row is kept, for it is known only later where the second body begins.
        self.rows.append(())
        self.body(body[3], names)
        self.rows[at] = ("less", low, high, len(self.rows))
        self.body(body[4], names)

    def branches(self, body, names):
        told = self.tell(body[1], names)
        at = len(self.rows)
        self.rows.append(())
        made = []
        for maker, parts, inner in body[2]:
            start = len(self.rows)
            inside = dict(names)
            for part in parts:
                inside[part] = self.bind()
            made.append((maker, tuple([inside[part] for part in parts]), start))
            self.body(inner, inside)
        self.rows[at] = ("match", told, tuple(made))

    def tell(self, term, names):
        """Makes the rows of an expression and returns the variable that it tells."""
        word = term[0]
        if word == "name":
            return names[term[1]]
        if word == "num":
            row = ("num", self.bind(), term[1])
        elif word == "op":
            left = self.tell(term[2], names)
            right = self.tell(term[3], names)
            row = ("add" if term[1] == "+" else "sub", self.bind(), left, right)
        elif word == "times":
            side = self.tell(term[2], names)
            row = ("times", self.bind(), side, term[1])
        else:
            given = tuple([self.tell(part, names) for part in term[2]])
            row = (word, self.bind(), term[1], given)
        self.rows.append(row)
        return row[1]
