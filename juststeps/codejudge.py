"""The code judge: walks through a function of a core and through code side by side, and tells the price of each row."""

from juststeps.codeside import CodeSide
from juststeps.cores import need_core
from juststeps.errors import Refused
from juststeps.images import need_image
from juststeps.kinds import makers_by_name
from juststeps.rows import is_plain
from juststeps.terms import Terms


def judge_code(core, image):
    """("let", prices), or ("refused", name, row, address) for the first event row that is not met."""
    need_core(core)
    need_image(core, image)
    try:
        found = _walks(core, image)
    except Refused as fault:
        return "refused", fault.name, fault.row, fault.address
    return "let", tuple(tuple(walk.prices) for walk in found)


def stretches(core, image):
    """For each function the stretch of each row that has a price, and None for the others."""
    need_core(core)
    need_image(core, image)
    return tuple(tuple(walk.stretches) for walk in _walks(core, image))


def _walks(core, image):
    """The walks through all functions; raises Refused for the first event row that is not met."""
    found = []
    for function, (_, start) in zip(core[1], image[0]):
        walk = Walk(core, function, image[1], start)
        walk.go_through()
        found.append(walk)
    return found


class Walk:
    """The walk through a function's rows in their sequence.

    bound has the terms of the variables; sides has the code's side for rows that are still to be come to.
    """

    def __init__(self, core, function, code, start):
        self.terms = Terms(core)
        self.fields = {maker: fields for maker, (_, fields) in makers_by_name(core[0]).items()}
        self.results = {head[0]: head[2] for head in core[1]}
        self.name, params, _, self.rows = function
        self.bound = {place: self.terms.param(place, kind) for place, kind in enumerate(params)}
        self.sides = {0: CodeSide(self.terms, code, start, [self.bound[place] for place in range(len(params))])}
        self.prices = [None] * len(self.rows)
        self.stretches = [None] * len(self.rows)

    def go_through(self):
        for at, row in enumerate(self.rows):
            if at in self.sides:
                side = self.sides[at]
                # Sides that have been left are dropped, for each of them may hold much.
                del self.sides[at]
                self.pass_row(at, row, side)

    def pass_row(self, at, row, side):
        """Comes to a row with the code's side, and goes on from it."""
        if is_plain(row):
            self.bound[row[1]] = self.made(row, side)
            self.sides[at + 1] = side
            return
        then = self.decided(at, row, side)
        if then is None:
            self.meet(at, row, side)
        else:
            self.sides[then] = side

    def made(self, row, side):
        """The term that a plain row binds."""
        word = row[0]
        if word == "num":
            return row[2]
        if word == "times":
            return self.terms.times(self.bound[row[2]], row[3])
        if word == "make":
            index = [maker for maker, _ in self.makers_beside(row[2])].index(row[2])
            return self.terms.cell([index] + self.told(row[3]), side.facts)
        return self.terms.summed(word, self.bound[row[2]], self.bound[row[3]])

    def makers_beside(self, maker):
        """The makers of the kind that a maker is of."""
        return [makers for makers in self.terms.makers.values() if maker in [name for name, _ in makers]][0]

    def told(self, variables):
        return [self.bound[variable] for variable in variables]

    def decided(self, at, row, side):
        """The row at which a decided row goes on; None for another row."""
        if row[0] == "less":
            a, b = self.told(row[1:3])
            if isinstance(a, int) and isinstance(b, int):
                return at + 1 if a < b else row[3]
        elif row[0] == "match":
            index = self.terms.taken(self.bound[row[1]], 0, side.facts)
            if isinstance(index, int):
                _, variables, start = row[2][index]
                self.bind_words(row[1], variables, side)
                return start
        return None

    def bind_words(self, matched, variables, side):
        """Binds a branch's variables to the words of the matched one's term."""
        for o, variable in enumerate(variables, start=1):
            self.bound[variable] = self.terms.taken(self.bound[matched], o, side.facts)

    def meet(self, at, row, side):
        """Goes on with the code's side to the instruction that meets an event row; raises Refused if none does."""
        stretch = side.walk()
        if stretch is None:
            raise Refused(self.name, at, side.at)
        frame = side.frame.height
        meeting = MEETINGS[row[0]]
        if not meeting(self, at, row, side):
            raise Refused(self.name, at, stretch[-1])
        top, held = side.top, 0
        if row[0] == "call":
            top, held = max(top, frame + 1), frame + 1
        self.prices[at] = (len(stretch), side.words, top, held)
        self.stretches[at] = stretch

    def gives_all(self, side, args):
        """Whether the first registers hold the arguments' terms, open cells there being shut ahead."""
        return [side.term_in(r) for r in range(len(args))] == self.told(args)


# Each meeting tells whether the instruction at the side's address meets the row, and leads on the sides behind it.

def _meet_less(walk, at, row, side):
    instruction = side.code[side.at]
    if instruction[0] != "less" or [side.read(r) for r in instruction[1:3]] != walk.told(row[1:3]):
        return False
    walk.sides[at + 1] = side.forked(side.at + 1)
    walk.sides[row[3]] = side.forked(instruction[3])
    return True


def _meet_match(walk, _, row, side):
    instruction = side.code[side.at]
    _, matched, branches = row
    thing = walk.bound[matched]
    if instruction[0] != "table" or len(instruction[2]) != len(branches):
        return False
    if side.read(instruction[1]) != walk.terms.tag(thing):
        return False
    for index, (maker, variables, start) in enumerate(branches):
        other = side.forked(instruction[2][index])
        other.facts[thing] = (index, walk.fields[maker])
        walk.sides[start] = other
        walk.bind_words(matched, variables, other)
    return True


def _meet_call(walk, at, row, side):
    _, x, name, args = row
    if side.code[side.at] != ("call", name) or not walk.gives_all(side, args):
        return False
    walk.bound[x] = walk.terms.result(at, walk.results[name])
    side.registers = [walk.bound[x]] + [None] * (len(side.registers) - 1)
    side.at += 1
    walk.sides[at + 1] = side
    return True


def _meet_give(walk, _, row, side):
    if side.code[side.at] != ("return",) or side.frame.height > 0:
        return False
    return side.term_in(0) == walk.bound[row[1]]


def _meet_go(walk, _, row, side):
    return side.code[side.at] == ("go", row[1]) and side.frame.height == 0 and walk.gives_all(side, row[2])


MEETINGS = {
    "less": _meet_less,
    "match": _meet_match,
    "call": _meet_call,
    "give": _meet_give,
    "go": _meet_go,
}
