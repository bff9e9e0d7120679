"""A second code judge, written straight from [29] to [35] over trees: slow, and only for small code."""

import copy

from tests.helper import with_part
from tests.machines import made_instruction


class Cell:
    """An open cell."""

    def __init__(self, many):
        self.words = [("num", 0)] * many


class State:
    """The code's side: registers, frame, and what is known on the way, pairs of a term and (index, fields)."""

    def __init__(self, regs, at):
        self.regs, self.frame, self.known, self.at = regs, [], [], at


class Stuck(Exception):
    """An instruction cannot be done in silence."""


class Refusal(Exception):
    pass


def put_for(things, old, new):
    return [new if thing is old else thing for thing in things]


class Judge:
    def __init__(self, core, image, function):
        self.kinds = dict(core[0])
        self.results = {head[0]: head[2] for head in core[1]}
        self.name, self.params, _, self.rows = function
        self.image, self.code = image, image[1]
        self.bound = {p: ("param", p) for p in range(len(self.params))}
        regs = [("param", p) for p in range(len(self.params))]
        self.pending = {0: State(regs + [None] * (8 - len(regs)), dict(image[0])[self.name])}
        self.prices = [None] * len(self.rows)
        self.stretches = [None] * len(self.rows)

    # Terms.

    def kind(self, state, term):
        if term[0] in ("num", "add", "sub", "times"):
            return "whole"
        if term[0] == "param":
            return self.params[term[1]]
        if term[0] == "result":
            return self.results[self.rows[term[1]][2]]
        if term[0] == "word":
            return self.maker(state, term[1])[1][term[2] - 1]
        return None

    def maker(self, state, term):
        """(index, fields) of the maker that a thing is known to be of, or None."""
        kind = self.kind(state, term)
        if kind is None or kind == "whole":
            return None
        if len(self.kinds[kind]) == 1:
            return 0, self.kinds[kind][0][1]
        for other, told in state.known:
            if other == term:
                return told
        return None

    def sum(self, word, a, b):
        if a[0] == b[0] == "num":
            return ("num", a[1] + b[1] if word == "add" else a[1] - b[1])
        return (word, a, b)

    def product(self, a, n):
        return ("num", a[1] * n) if a[0] == "num" else ("times", a, n)

    def cell(self, state, words):
        if len(words) > 1 and words[1][0] == "word" and words[0][0] == "num":
            thing = words[1][1]
            told = self.maker(state, thing)
            if told is not None and told[0] == words[0][1] and len(told[1]) == len(words) - 1:
                if all(word == ("word", thing, o) for o, word in enumerate(words) if o):
                    return thing
        return ("cell",) + tuple(words)

    def word(self, state, term, o):
        """What take finds, or None."""
        if term[0] == "cell":
            return term[o + 1] if o + 1 < len(term) else None
        kind = self.kind(state, term)
        if kind in (None, "whole"):
            return None
        told = self.maker(state, term)
        if told is None:
            return ("tag", term) if o == 0 else None
        if o == 0:
            return ("num", told[0])
        return ("word", term, o) if o <= len(told[1]) else None

    # The code's side.

    def demand(self, right):
        if not right:
            raise Stuck

    def shut(self, state, cell):
        term = self.cell(state, cell.words)
        state.regs = put_for(state.regs, cell, term)
        state.frame = put_for(state.frame, cell, term)
        return term

    def is_whole(self, state, value):
        return not isinstance(value, Cell) and self.kind(state, value) == "whole"

    def silent(self, state, word, *parts):
        """Does an instruction in silence and returns the next address, or raises Stuck."""
        regs, frame, then = state.regs, state.frame, state.at + 1
        read = {"copy": (1,), "add": (1, 2), "sub": (1, 2), "times": (1,), "put": (0, 2), "take": (1,), "save": (1,),
                "less": (0, 1), "table": (0,)}
        self.demand(word not in ("call", "go", "return"))
        self.demand(all(regs[parts[at]] is not None for at in read.get(word, ())))
        if word == "set":
            regs[parts[0]] = ("num", parts[1])
        elif word == "copy":
            regs[parts[0]] = regs[parts[1]]
        elif word in ("add", "sub"):
            self.demand(self.is_whole(state, regs[parts[1]]) and self.is_whole(state, regs[parts[2]]))
            regs[parts[0]] = self.sum(word, regs[parts[1]], regs[parts[2]])
        elif word == "times":
            self.demand(self.is_whole(state, regs[parts[1]]))
            regs[parts[0]] = self.product(regs[parts[1]], parts[2])
        elif word == "new":
            regs[parts[0]] = Cell(parts[1])
        elif word == "put":
            worth = regs[parts[2]]
            if isinstance(worth, Cell):
                worth = self.shut(state, worth)
            self.demand(worth[0] != "tag")
            target = state.regs[parts[0]]
            self.demand(isinstance(target, Cell) and parts[1] < len(target.words))
            target.words[parts[1]] = worth
        elif word == "take":
            thing = regs[parts[1]]
            if isinstance(thing, Cell):
                self.demand(parts[2] < len(thing.words))
                found = thing.words[parts[2]]
            else:
                found = self.word(state, thing, parts[2])
                self.demand(found is not None)
            regs[parts[0]] = found
        elif word == "push":
            state.frame = frame + [("num", 0)] * parts[0]
        elif word == "drop":
            self.demand(parts[0] <= len(frame))
            state.frame = frame[:len(frame) - parts[0]]
        elif word == "save":
            self.demand(parts[0] < len(frame))
            frame[len(frame) - 1 - parts[0]] = regs[parts[1]]
        elif word == "load":
            self.demand(parts[1] < len(frame))
            regs[parts[0]] = frame[len(frame) - 1 - parts[1]]
        elif word == "less":
            a, b = regs[parts[0]], regs[parts[1]]
            self.demand(not isinstance(a, Cell) and not isinstance(b, Cell) and a[0] == b[0] == "num")
            then = then if a[1] < b[1] else parts[2]
        elif word == "table":
            a = regs[parts[0]]
            self.demand(not isinstance(a, Cell) and a[0] == "num" and 0 <= a[1] < len(parts[1]))
            then = parts[1][a[1]]
        elif word == "jump":
            then = parts[0]
        return then

    # Both sides.

    def judge(self):
        while self.pending:
            at = min(self.pending)
            state = self.pending.pop(at)
            row = self.rows[at]
            then = self.pass_silently(at, row, state)
            if then is not None:
                self.pending[then] = state
            else:
                self.meet(at, row, state)

    def pass_silently(self, at, row, state):
        """Where the core goes on behind a plain or a decided row; None for others."""
        term = self.bound
        if row[0] == "num":
            term[row[1]] = ("num", row[2])
        elif row[0] in ("add", "sub"):
            term[row[1]] = self.sum(row[0], term[row[2]], term[row[3]])
        elif row[0] == "times":
            term[row[1]] = self.product(term[row[2]], row[3])
        elif row[0] == "make":
            index = [[name for name, _ in makers].index(row[2]) for makers in self.kinds.values()
                     if row[2] in dict(makers)][0]
            term[row[1]] = self.cell(state, [("num", index)] + [term[arg] for arg in row[3]])
        elif row[0] == "less" and term[row[1]][0] == term[row[2]][0] == "num":
            return at + 1 if term[row[1]][1] < term[row[2]][1] else row[3]
        elif row[0] == "match":
            thing = term[row[1]]
            told = (thing[1][1], ()) if thing[0] == "cell" else self.maker(state, thing)
            if told is None:
                return None
            _, names, start = row[2][told[0]]
            self.bind(state, thing, names)
            return start
        else:
            return None
        return at + 1

    def bind(self, state, thing, names):
        for o, name in enumerate(names, 1):
            self.bound[name] = self.word(state, thing, o)

    def meet(self, at, row, state):
        stretch, words, top = [], 0, len(state.frame)
        while True:
            if state.at == len(self.code) or len(stretch) == len(self.code):
                raise Refusal(self.name, at, state.at)
            stretch.append(state.at)
            instruction = self.code[state.at]
            try:
                state.at = self.silent(state, *instruction)
            except Stuck:
                break
            words += instruction[2] if instruction[0] == "new" else 0
            top = max(top, len(state.frame))
        held = 0
        if row[0] == "call":
            held = len(state.frame) + 1
            top = max(top, held)
        if not self.met(at, row, state, *instruction):
            raise Refusal(self.name, at, stretch[-1])
        self.prices[at] = (len(stretch), words, top, held)
        self.stretches[at] = tuple(stretch)

    def holds(self, state, terms):
        """Shuts what is open in the first registers, and tells whether they hold the terms."""
        for r in range(len(terms)):
            if isinstance(state.regs[r], Cell):
                self.shut(state, state.regs[r])
        return state.regs[:len(terms)] == terms

    def met(self, at, row, state, word, *parts):
        term = self.bound
        if row[0] == "less":
            if word != "less" or [state.regs[r] for r in parts[:2]] != [term[row[1]], term[row[2]]]:
                return False
            for start, address in ((at + 1, state.at + 1), (row[3], parts[2])):
                other = copy.deepcopy(state)
                other.at = address
                self.pending[start] = other
            return True
        if row[0] == "match":
            thing = term[row[1]]
            if word != "table" or state.regs[parts[0]] != ("tag", thing) or len(parts[1]) != len(row[2]):
                return False
            for index, (maker, names, start) in enumerate(row[2]):
                other = copy.deepcopy(state)
                other.at = parts[1][index]
                fields = [dict(makers)[maker] for makers in self.kinds.values() if maker in dict(makers)][0]
                other.known.append((thing, (index, fields)))
                told = lambda value: ("num", index) if value == ("tag", thing) else value
                other.regs, other.frame = [told(value) for value in other.regs], [told(value) for value in other.frame]
                self.bind(other, thing, names)
                self.pending[start] = other
            return True
        if row[0] == "give":
            return word == "return" and not state.frame and self.holds(state, [term[row[1]]])
        name, args = row[-2:]
        wanted = "call" if row[0] == "call" else "go"
        if (word,) + parts != (wanted, name) or (row[0] == "go" and state.frame):
            return False
        if not self.holds(state, [term[arg] for arg in args]):
            return False
        if row[0] == "call":
            term[row[1]] = ("result", at)
            state.regs = [term[row[1]]] + [None] * 7
            state.at += 1
            self.pending[at + 1] = state
        return True


def second_judge(core, image):
    """What judge_code and stretches tell, or the refusal and None."""
    prices, stretches = [], []
    for function in core[1]:
        judge = Judge(core, image, function)
        try:
            judge.judge()
        except Refusal as refusal:
            return ("refused",) + refusal.args, None
        prices.append(tuple(judge.prices))
        stretches.append(tuple(judge.stretches))
    return ("let", tuple(prices)), tuple(stretches)


def changed(random, image):
    """The image with a small change in its code."""
    starts, code = image
    names = [name for name, _ in starts]
    at = random.randrange(len(code))
    chance = random.random()
    if chance < 0.2:
        return starts, with_part(code, (at,), made_instruction(random, names, len(code)))
    if chance < 0.35 and at + 1 < len(code):
        return starts, code[:at] + (code[at + 1], code[at]) + code[at + 2:]
    if chance < 0.5:
        return starts, with_part(code, (at,), random.choice(code))
    if chance < 0.75:
        # One more instruction; addresses are moved along.
        coming = random.choice((made_instruction(random, names, len(code) + 1), ("jump", at + 1), ("push", 0),
                                ("set", 6, 5), ("copy", 7, 0), ("new", 5, 2)))
        places = [place + (place > at) for place in range(len(code))]
        moved = tuple(led(instruction, places) for instruction in code)
        places = [place + (place >= at) for place in range(len(code))] if chance < 0.7 else places
        return tuple((name, places[address]) for name, address in starts), moved[:at] + (coming,) + moved[at:]
    part = random.randrange(len(code[at]))
    if part == 0 or not isinstance(code[at][part], int):
        return starts, with_part(code, (at,), random.choice(code))
    new = max(0, code[at][part] + random.choice((-1, 1, 2)))
    bounds = {"less": len(code) - 1, "jump": len(code) - 1}.get(code[at][0], 7)
    return starts, with_part(code, (at, part), min(new, bounds))


def led(instruction, places):
    if instruction[0] == "jump":
        return "jump", places[instruction[1]]
    if instruction[0] == "less":
        return instruction[:3] + (places[instruction[3]],)
    if instruction[0] == "table":
        return instruction[:2] + (tuple(places[address] for address in instruction[2]),)
    return instruction
