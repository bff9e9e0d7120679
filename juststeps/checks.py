"""Checks: whether the names, counts and kinds of a program fit."""

from juststeps.errors import BadProgram, NotChecked
from juststeps.kinds import kinds_fault, makers_by_kind, makers_by_name
from juststeps.names import WHOLE
from juststeps.programs import is_program


def check(program):
    """None, or what is wrong first with a program, as a word and the name of the function."""
    try:
        checked(program)
    except NotChecked as fault:
        return fault.what
    return None


def checked(program):
    """Raises NotChecked if something is wrong with a program."""
    if not is_program(program):
        raise BadProgram("a program is wanted")
    kinds, functions = program
    word = kinds_fault(kinds)
    if word is not None:
        raise NotChecked((word, None))
    _check_heads([WHOLE] + [name for name, _ in kinds], functions)
    heads = {name: ([kind for _, kind in params], result) for name, params, result, _ in functions}
    for name, params, result, body in functions:
        checker = BodyChecker(kinds, heads, name, result)
        checker.body(body, {param: kind for param, kind in params})


def _check_heads(kinds, functions):
    names = {}
    for name, params, result, _ in functions:
        word = "double" if name in names else _head_fault(kinds, params, result)
        if word is not None:
            raise NotChecked((word, name))
        names[name] = True


def _head_fault(kinds, params, result):
    """The word of what is wrong first with a head's params and result, or None."""
    ahead = {}
    for param, kind in params:
        if kind not in kinds:
            return "kind"
        if param in ahead:
            return "double"
        ahead[param] = True
    return None if result in kinds else "kind"


class BodyChecker:
    """Goes through the body of one function; reach has the kinds of the names in reach."""

    def __init__(self, kinds, heads, name, result):
        self.kinds = makers_by_kind(kinds)
        self.makers = makers_by_name(kinds)
        self.heads = heads
        self.name = name
        self.result = result

    def demand(self, right, word):
        if not right:
            raise NotChecked((word, self.name))

    def body(self, body, reach):
        word = body[0]
        if word == "let":
            kind = self.kind_of(body[2], reach)
            self.demand(body[1] not in reach, "double")
            self.body(body[3], {**reach, body[1]: kind})
        elif word == "if":
            self.fits(body[1], WHOLE, reach)
            self.fits(body[2], WHOLE, reach)
            self.body(body[3], reach)
            self.body(body[4], reach)
        elif word == "match":
            self.branches(body, reach)
        else:
            self.fits(body[1], self.result, reach)

    def branches(self, body, reach):
        kind = self.kind_of(body[1], reach)
        self.demand(kind != WHOLE, "fit")
        makers = self.kinds[kind]
        wanted = [maker for maker, _ in makers]
        self.demand([branch[0] for branch in body[2]] == wanted, "makers")
        for (_, fields), (_, names, inner) in zip(makers, body[2]):
            self.demand(len(names) == len(fields), "count")
            inside = dict(reach)
            for name, field in zip(names, fields):
                self.demand(name not in inside, "double")
                inside[name] = field
            self.body(inner, inside)

    def fits(self, term, kind, reach):
        """Checks the expression, then that it is of the kind."""
        found = self.kind_of(term, reach)
        self.demand(found == kind, "fit")

    def kind_of(self, term, reach):
        """Checks the expression and returns its kind."""
        word = term[0]
        if word == "name":
            self.demand(term[1] in reach, "name")
            return reach[term[1]]
        if word == "make":
            self.demand(term[1] in self.makers, "name")
            kind, fields = self.makers[term[1]]
            self.fit_all(term[2], fields, reach)
            return kind
        if word == "call":
            self.demand(term[1] in self.heads, "name")
            params, result = self.heads[term[1]]
            self.fit_all(term[2], params, reach)
            return result
        # A num has no side, a times one and an op two: what stands behind the number or sign.
        for side in term[2:]:
            self.fits(side, WHOLE, reach)
        return WHOLE

    def fit_all(self, terms, kinds, reach):
        self.demand(len(terms) == len(kinds), "count")
        for term, kind in zip(terms, kinds):
            self.fits(term, kind, reach)
