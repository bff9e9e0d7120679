"""The code's side of the code judge's walk: what registers and the frame hold, and instructions done in silence.

A register holds None (nothing), a term, or an open cell; a word of the frame holds one of the latter two. An open
cell is ("cell", number), which is the same one wherever it is held, and has its words in cells. When it is shut its
term is put into shut; what still holds the cell then holds this term.
"""

from juststeps.stacks import Stack

REGISTERS = 8


class CodeSide:
    """The code's side at an address; words and top are those of the stretch at hand."""

    def __init__(self, terms, code, at, params):
        self.terms = terms
        self.code = code
        self.at = at
        self.registers = list(params) + [None] * (REGISTERS - len(params))
        self.frame = Stack()
        self.facts = {}
        self.cells = {}
        self.shut = {}
        self.words = 0
        self.top = 0

    def forked(self, at):
        """Another side that goes on from here at an address."""
        other = CodeSide(self.terms, self.code, at, self.registers)
        other.frame = self.frame.twin()
        other.facts = {term: self.facts[term] for term in self.facts}
        other.cells = {cell: list(self.cells[cell]) for cell in self.cells}
        other.shut = {cell: self.shut[cell] for cell in self.shut}
        return other

    def walk(self):
        """Goes on in silence; returns the addresses of the stretch if its last instruction is not silent, else None."""
        stretch = []
        self.words = 0
        self.top = self.frame.height
        while self.at < len(self.code) and len(stretch) < len(self.code):
            stretch.append(self.at)
            then = self.silent(self.code[self.at])
            if then is None:
                return tuple(stretch)
            self.at = then
        return None

    def silent(self, instruction):
        """Does the instruction in silence and returns the next address; None if it cannot be done so."""
        if instruction[0] not in ACTIONS:
            return None
        action = ACTIONS[instruction[0]]
        return action(self, instruction)

    def held(self, value):
        """What is held by whatever has the value."""
        if value is None or isinstance(value, int):
            return value
        if len(value) == 2:
            return self.shut.get(value, value)
        return self.terms.as_known(value, self.facts)

    def read(self, r):
        return self.held(self.registers[r])

    def hold(self, r, value):
        """Makes a register hold a value and returns the next address; None if there is no value."""
        if value is None:
            return None
        self.registers[r] = value
        return self.at + 1

    def term_in(self, r):
        """The term in a register, an open cell there being shut; None if it holds nothing."""
        value = self.read(r)
        if value not in self.cells:
            return value
        self.shut[value] = self.terms.cell(self.cells[value], self.facts)
        del self.cells[value]
        return self.shut[value]

    def whole_in(self, r):
        """The whole term in a register, or None."""
        value = self.read(r)
        if value is None or value in self.cells or not self.terms.is_whole(value):
            return None
        return value

    def number_in(self, r):
        """The number in a register, or None."""
        value = self.read(r)
        return value if isinstance(value, int) else None


# Each action does an instruction in silence and returns the next address, or None if it cannot be done so.

def _set(side, instruction):
    return side.hold(instruction[1], instruction[2])


def _copy(side, instruction):
    return side.hold(instruction[1], side.read(instruction[2]))


def _sum(side, instruction):
    word, r, s, t = instruction
    a, b = side.whole_in(s), side.whole_in(t)
    if a is None or b is None:
        return None
    return side.hold(r, side.terms.summed(word, a, b))


def _times(side, instruction):
    _, r, s, n = instruction
    a = side.whole_in(s)
    return None if a is None else side.hold(r, side.terms.times(a, n))


def _new(side, instruction):
    _, r, n = instruction
    cell = ("cell", len(side.cells) + len(side.shut))
    side.cells[cell] = [0] * n
    side.words += n
    return side.hold(r, cell)


def _put(side, instruction):
    _, r, o, s = instruction
    term = side.term_in(s)
    cell = side.read(r)
    if term is None or side.terms.is_tag(term) or cell not in side.cells or o >= len(side.cells[cell]):
        return None
    side.cells[cell][o] = term
    return side.at + 1


def _take(side, instruction):
    _, r, s, o = instruction
    value = side.read(s)
    if value is None:
        return None
    if value not in side.cells:
        return side.hold(r, side.terms.taken(value, o, side.facts))
    words = side.cells[value]
    return side.hold(r, words[o]) if o < len(words) else None


def _push(side, instruction):
    side.frame.grow(instruction[1])
    side.top = max(side.top, side.frame.height)
    return side.at + 1


def _drop(side, instruction):
    if instruction[1] > side.frame.height:
        return None
    side.frame.shrink(instruction[1])
    return side.at + 1


def _save(side, instruction):
    _, i, r = instruction
    value = side.read(r)
    if value is None or i >= side.frame.height:
        return None
    side.frame.write(i, value)
    return side.at + 1


def _load(side, instruction):
    _, r, i = instruction
    return side.hold(r, side.held(side.frame.word(i))) if i < side.frame.height else None


def _less(side, instruction):
    _, s, t, j = instruction
    a, b = side.number_in(s), side.number_in(t)
    if a is None or b is None:
        return None
    return side.at + 1 if a < b else j


def _table(side, instruction):
    _, s, js = instruction
    index = side.number_in(s)
    return js[index] if index is not None and 0 <= index < len(js) else None


def _jump(_, instruction):
    return instruction[1]


ACTIONS = {
    "set": _set,
    "copy": _copy,
    "add": _sum,
    "sub": _sum,
    "times": _times,
    "new": _new,
    "put": _put,
    "take": _take,
    "push": _push,
    "drop": _drop,
    "save": _save,
    "load": _load,
    "less": _less,
    "table": _table,
    "jump": _jump,
}
