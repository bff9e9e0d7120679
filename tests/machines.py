"""Images for tests, and a second machine that is written straight from [21] to [23]."""

import sys
from random import Random

# The second machine tells values of 4,000 words by calls within calls.
sys.setrecursionlimit(20000)

SUM_CORE = (
    (("List", (("Nil", ()), ("Cons", ("whole", "List")))),),
    (("sum", ("List", "whole"), "whole", (("match", 0, (("Nil", (), 1), ("Cons", (2, 3), 2))), ("give", 1),
                                           ("add", 4, 1, 2), ("go", "sum", (3, 4)))),),
)
SUM_CODE = (("take", 2, 0, 0), ("table", 2, (2, 4)), ("copy", 0, 1), ("return",), ("take", 3, 0, 1), ("add", 1, 1, 3),
            ("take", 0, 0, 2), ("go", "sum"))
SUM_IMAGE = ((("sum", 0),), SUM_CODE)
EVERY = (
    (("f", 0), ("g", 17)),
    (("set", 3, -17), ("copy", 1, 2), ("add", 0, 1, 2), ("sub", 0, 1, 2), ("times", 0, 1, -5), ("new", 3, 64),
     ("put", 1, 2, 3), ("take", 1, 3, 2), ("push", 5), ("drop", 5), ("save", 9, 1), ("load", 1, 9), ("less", 1, 2, 13),
     ("table", 2, (5, 9, 14)), ("jump", 3), ("call", "g"), ("go", "f"), ("return",)),
)
JOIN_CODE = (
    ("take", 2, 0, 0), ("table", 2, (2, 4)), ("copy", 0, 1), ("return",), ("push", 1), ("take", 2, 0, 1),
    ("save", 0, 2), ("take", 0, 0, 2), ("call", "join"), ("load", 1, 0), ("new", 2, 3), ("set", 3, 1), ("put", 2, 0, 3),
    ("put", 2, 1, 1), ("put", 2, 2, 0), ("copy", 0, 2), ("drop", 1), ("return",))
JOIN_IMAGE = ((("join", 0),), JOIN_CODE)


def made_instruction(random, names, size):
    """Any instruction, its numbers mostly small."""
    reg = lambda: random.choice((0, 0, 1, 1, 2, 3, 7))
    offset = lambda: random.choice((0, 0, 1, 1, 2, 3))
    address = lambda: random.randrange(size)
    word = random.choice("set set copy add sub times new new put put take take push drop save load less table jump "
                         "call go return".split())
    if word == "set":
        return word, reg(), random.choice((0, 1, 2, 3, -1, 10 ** 12))
    if word == "copy":
        return word, reg(), reg()
    if word in ("add", "sub"):
        return word, reg(), reg(), reg()
    if word == "times":
        return word, reg(), reg(), random.choice((0, 1, 2, -3, 10 ** 6))
    if word == "new":
        return word, reg(), random.choice((1, 2, 3, 64))
    if word == "put":
        return word, reg(), offset(), reg()
    if word == "take":
        return word, reg(), reg(), offset()
    if word in ("push", "drop"):
        return word, random.choice((0, 1, 1, 2, 3))
    if word == "save":
        return word, offset(), reg()
    if word == "load":
        return word, reg(), offset()
    if word == "less":
        return word, reg(), reg(), address()
    if word == "table":
        return word, reg(), tuple(address() for _ in range(random.randint(1, 3)))
    if word == "jump":
        return word, address()
    return (word,) if word == "return" else (word, random.choice(names))


def made_image(random, names, size):
    starts = tuple((name, random.randrange(size)) for name in names)
    return starts, tuple(made_instruction(random, names, size) for _ in range(size))


def lay_value(kinds, heap, words, kind):
    """Lays the value at the front of a list of words and returns its word."""
    word = words.pop(0)
    if kind == "whole":
        return word
    makers = dict(kinds)[kind]
    index = [maker for maker, _ in makers].index(word)
    fields = makers[index][1]
    place = len(heap)
    heap += [index] + [0] * len(fields)
    for at, field in enumerate(fields):
        heap[place + 1 + at] = lay_value(kinds, heap, words, field)
    return place


class Wild(Exception):
    """A word stands for nothing."""


class Long(Exception):
    """A value has more than 4,000 words."""


def tell_value(kinds, heap, told, kind, word):
    """Adds the words for which a word stands to those told; word is a function, called only when the word is read."""
    if len(told) == 4000:
        raise Long
    word = word()
    if kind == "whole":
        told.append(word)
        return
    makers = dict(kinds)[kind]
    if word not in range(len(heap)) or heap[word] not in range(len(makers)):
        raise Wild
    maker, fields = makers[heap[word]]
    told.append(maker)
    for at, field in enumerate(fields):
        def look(place=word + 1 + at):
            if place >= len(heap):
                raise Wild
            return heap[place]
        tell_value(kinds, heap, told, field, look)


class Second:
    """A run of the machine, done as [22] and [23] say it."""

    def __init__(self, core, image, name, args):
        self.core = core
        self.starts, self.code = dict(image[0]), image[1]
        self.function = [function for function in core[1] if function[0] == name][0]
        self.heap, self.stack, self.trace, self.words, self.top = [], [], [], 0, 0
        given = [lay_value(core[0], self.heap, list(words), kind) for words, kind in zip(args, self.function[1])]
        self.regs = given + [0] * (8 - len(given))
        self.at = self.starts[name]
        self.done = False

    def run(self, limit):
        while not self.done:
            if len(self.trace) == limit:
                return "spent", None, limit, self.words, self.top
            if not 0 <= self.at < len(self.code) or not self.can(*self.code[self.at]):
                return "fault", None, len(self.trace), self.words, self.top
            self.trace.append(self.at)
            self.do(*self.code[self.at])
            self.top = max(self.top, len(self.stack))
        told = []
        try:
            tell_value(self.core[0], self.heap, told, self.function[2], lambda: self.regs[0])
            end, value = "ended", tuple(told)
        except Long:
            end, value = "ended", None
        except Wild:
            end, value = "wild", None
        return end, value, len(self.trace), self.words, self.top

    def can(self, word, *parts):
        if word == "put":
            return self.regs[parts[0]] + parts[1] in range(len(self.heap))
        if word == "take":
            return self.regs[parts[1]] + parts[2] in range(len(self.heap))
        if word == "save":
            return parts[0] < len(self.stack)
        if word == "load":
            return parts[1] < len(self.stack)
        if word == "drop":
            return parts[0] <= len(self.stack)
        if word == "table":
            return self.regs[parts[0]] in range(len(parts[1]))
        return True

    def do(self, word, *parts):
        regs, at = self.regs, self.at
        self.at = at + 1
        if word == "set":
            regs[parts[0]] = parts[1]
        elif word == "copy":
            regs[parts[0]] = regs[parts[1]]
        elif word == "add":
            regs[parts[0]] = regs[parts[1]] + regs[parts[2]]
        elif word == "sub":
            regs[parts[0]] = regs[parts[1]] - regs[parts[2]]
        elif word == "times":
            regs[parts[0]] = regs[parts[1]] * parts[2]
        elif word == "new":
            regs[parts[0]] = len(self.heap)
            self.heap += [0] * parts[1]
            self.words += parts[1]
        elif word == "put":
            self.heap[regs[parts[0]] + parts[1]] = regs[parts[2]]
        elif word == "take":
            regs[parts[0]] = self.heap[regs[parts[1]] + parts[2]]
        elif word == "push":
            self.stack += [0] * parts[0]
        elif word == "drop":
            self.stack = self.stack[:len(self.stack) - parts[0]]
        elif word == "save":
            self.stack[len(self.stack) - 1 - parts[0]] = regs[parts[1]]
        elif word == "load":
            regs[parts[0]] = self.stack[len(self.stack) - 1 - parts[1]]
        elif word == "less" and not regs[parts[0]] < regs[parts[1]]:
            self.at = parts[2]
        elif word == "table":
            self.at = parts[1][regs[parts[0]]]
        elif word == "jump":
            self.at = parts[0]
        elif word in ("call", "go"):
            self.stack += [at + 1] if word == "call" else []
            self.at = self.starts[parts[0]]
        elif word == "return":
            self.done = not self.stack
            self.at = None if self.done else self.stack.pop()


def value_for(random, core, kind, depth=4):
    """The words of a value of any kind of the core; the first maker of a kind must not need the kind itself."""
    if kind == "whole":
        return (random.choice((0, 1, 2, 3, -4, 10 ** 15)),)
    makers = dict(core[0])[kind]
    maker, fields = makers[0] if depth <= 0 or random.random() < 0.35 else random.choice(makers)
    words = (maker,)
    for field in fields:
        words += value_for(random, core, field, depth - 1)
    return words
