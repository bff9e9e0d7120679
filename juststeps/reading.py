"""Reads the words of a text into nested tuples, whatever counts and depths they have.

What is still to come is kept as a plan, a list of items, so that no text can make calls deep. An item is a word
of the text, a rule in capitals, or "[" and "]", which begin and end the tuple into which is put what is read.
"""

from juststeps.errors import BadText
from juststeps.names import MOST_FACTOR, WHOLE, is_high, is_low, is_number

MOST_BRACKETS = 99
BLANKS = " \n"

# A body, by the word with which it begins.
BODIES = {
    "let": ("[", "WORD", "LOW", "=", "TERM", ";", "BODY", "]"),
    "if": ("[", "WORD", "TERM", "<", "TERM", "{", "BODY", "}", "else", "{", "BODY", "}", "]"),
    "match": ("[", "WORD", "TERM", "{", "[", "BRANCH", "BRANCHES", "]", "}", "]"),
    "give": ("[", "WORD", "TERM", "]"),
}

# What a rule always stands for.
ALWAYS = {
    "TEXT": ("[", "[", "KINDS", "]", "[", "FUNCTIONS", "]", "]"),
    "MAKER": ("[", "HIGH", "(", "[", "FIELDS", "]", ")", "]"),
    "PARAM": ("[", "KIND", "LOW", "TURN", "]"),
    "BRANCH": ("[", "HIGH", "(", "[", "NAMES", "]", ")", "{", "BODY", "}", "]"),
    "FUNCTION": ("[", "def", "LOW", "(", "[", "PARAMS", "]", ")", ":", "KIND", "{", "BODY", "}", "]"),
}

# What a rule stands for if the next word is the first one of the row; otherwise for nothing.
IF_FIRST = {
    "KINDS": ("kind", "[", "HIGH", "{", "[", "MAKER", "MAKERS", "]", "}", "]", "KINDS"),
    "MORE_FIELDS": (",", "KIND", "MORE_FIELDS"),
    "MORE_PARAMS": (",", "PARAM", "MORE_PARAMS"),
    "MORE_NAMES": (",", "LOW", "MORE_NAMES"),
    "MORE_ARGS": (",", "TERM", "MORE_ARGS"),
}

# A rule stands for nothing if the next word is the first one here; otherwise for the others.
UNLESS = {
    "FUNCTIONS": ("", "FUNCTION", "FUNCTIONS"),
    "MAKERS": ("}", "MAKER", "MAKERS"),
    "BRANCHES": ("}", "BRANCH", "BRANCHES"),
    "FIELDS": (")", "KIND", "MORE_FIELDS"),
    "PARAMS": (")", "PARAM", "MORE_PARAMS"),
    "NAMES": (")", "LOW", "MORE_NAMES"),
    "ARGS": (")", "TERM", "MORE_ARGS"),
}


class Reader:
    """A text, the word that is next in it, what is planned, and the tuples that have begun."""

    def __init__(self, text):
        self.text = text
        self.at = 0
        self.word = ""
        self.brackets = 0
        self.planned = ["TEXT"]
        self.begun = [[]]
        self.look(0)

    def fail(self):
        raise BadText(self.at)

    def run_end(self, at):
        """The index behind the run of letters and digits that begins at the index."""
        while at < len(self.text) and self.text[at].isascii() and self.text[at].isalnum():
            at += 1
        return at

    def look(self, at):
        """Makes the first word from the index on the next one; it is empty at the text's end."""
        while at < len(self.text) and self.text[at] in BLANKS:
            at += 1
        self.at = at
        self.word = self.text[at:max(at + 1, self.run_end(at))]

    def take(self):
        """Goes behind the next word and returns it."""
        word = self.word
        if word in ("(", "{"):
            if self.brackets == MOST_BRACKETS:
                self.fail()
            self.brackets += 1
        elif word in (")", "}"):
            self.brackets -= 1
        self.look(self.at + len(word))
        return word

    def plan(self, items):
        self.planned.extend(items[::-1])

    def put(self, thing):
        self.begun[-1].append(thing)

    def end_tuple(self):
        done = tuple(self.begun.pop())
        self.put(done)

    def begins_numeral(self):
        return self.word == "-" or self.word[:1].isdigit()

    def numeral(self):
        """Takes a numeral where an expression begins; a - belongs to it."""
        if self.word == "-":
            digits = self.text[self.at + 1:self.run_end(self.at + 1)]
            behind = self.at + 1 + len(digits)
        else:
            digits = self.word
            behind = self.at + len(digits)
        # Long rows of digits are never turned into an integer: Python itself refuses some of them.
        if not digits.isascii() or not digits.isdigit() or len(digits) > 13:
            self.fail()
        if digits[0] == "0" and (self.word == "-" or len(digits) > 1):
            self.fail()
        number = -int(digits) if self.word == "-" else int(digits)
        if not is_number(number):
            self.fail()
        self.look(behind)
        return number


def _term(reader):
    """An expression."""
    word = reader.word
    if word == "(":
        reader.take()
        _inside(reader)
    elif is_high(word):
        _applied(reader, "make", reader.take())
    elif not is_low(word):
        reader.put(("num", reader.numeral()))
    else:
        reader.take()
        if reader.word == "(":
            _applied(reader, "call", word)
        else:
            reader.put(("name", word))


def _applied(reader, word, name):
    reader.begun.append([word, name])
    reader.plan(("(", "[", "ARGS", "]", ")", "]"))


def _inside(reader):
    """What stands behind a bracket that begins an expression: a times or an op."""
    if not reader.begins_numeral():
        reader.begun.append(["op"])
        reader.plan(("TERM", "SIGN", "TERM", ")", "]"))
        return
    number = reader.numeral()
    if reader.word != "*":
        reader.begun.append(["op", ("num", number)])
        reader.plan(("SIGN", "TERM", ")", "]"))
        return
    if abs(number) > MOST_FACTOR:
        reader.fail()
    reader.begun.append(["times", number])
    reader.plan(("*", "TERM", ")", "]"))


def _sign(reader):
    """The sign of an op, which goes ahead of the side that is read already."""
    if reader.word not in ("+", "-"):
        reader.fail()
    reader.begun[-1].insert(1, reader.take())


def _body(reader):
    if reader.word not in BODIES:
        reader.fail()
    reader.plan(BODIES[reader.word])


def _word(reader):
    reader.put(reader.take())


def _low(reader):
    if not is_low(reader.word):
        reader.fail()
    _word(reader)


def _high(reader):
    if not is_high(reader.word):
        reader.fail()
    _word(reader)


def _kind(reader):
    if reader.word != WHOLE and not is_high(reader.word):
        reader.fail()
    _word(reader)


def _turn(reader):
    """A param is written with its kind ahead, and kept with its name ahead."""
    reader.begun[-1].reverse()


def _begin(reader):
    reader.begun.append([])


def _end(reader):
    reader.end_tuple()


ACTIONS = {
    "[": _begin,
    "]": _end,
    "TERM": _term,
    "SIGN": _sign,
    "BODY": _body,
    "WORD": _word,
    "LOW": _low,
    "HIGH": _high,
    "KIND": _kind,
    "TURN": _turn,
}


def _do(reader, item):
    if item in ACTIONS:
        action = ACTIONS[item]
        action(reader)
    elif item in ALWAYS:
        reader.plan(ALWAYS[item])
    elif item in IF_FIRST:
        if reader.word == IF_FIRST[item][0]:
            reader.plan(IF_FIRST[item])
    elif item in UNLESS:
        if reader.word != UNLESS[item][0]:
            reader.plan(UNLESS[item][1:])
    elif reader.word == item:
        reader.take()
    else:
        reader.fail()


def read_words(text):
    """What the words of a str tell, in the form of a program but for its bounds; else raises BadText."""
    reader = Reader(text)
    while reader.planned:
        _do(reader, reader.planned.pop())
    return reader.begun[0][0]
