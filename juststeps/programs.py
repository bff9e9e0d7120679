"""Programs: what is one, its text, and the program of a text."""

from juststeps.errors import BadProgram, BadText
from juststeps.kinds import MOST_FIELDS, MOST_MAKERS, are_kinds
from juststeps.names import MOST_FUNCTIONS, MOST_PARAMS
from juststeps.names import first_word, is_factor, is_high, is_kind, is_low, is_number, is_tuple
from juststeps.reading import read_words
from juststeps.writing import program_words

MOST_PARTS = 100
MOST_CHAIN = 30


def is_program(thing):
    """Whether any object is a program."""
    if not is_tuple(thing, 2, 2) or not are_kinds(thing[0]):
        return False
    return is_tuple(thing[1], 0, MOST_FUNCTIONS) and all(_is_function(function) for function in thing[1])


def write_program(program):
    """The text of a program with one blank between two words."""
    if not is_program(program):
        raise BadProgram("a program is wanted")
    return " ".join(program_words(program))


def read_program(text):
    """The program of a text; raises BadText with the place of what is wrong first."""
    if not isinstance(text, str):
        raise BadText(0)
    program = read_words(text)
    if not is_program(program):
        raise BadText(len(text))
    return program


def _is_function(thing):
    if not is_tuple(thing, 4, 4):
        return False
    name, params, result, body = thing
    if not is_low(name) or not is_tuple(params, 0, MOST_PARAMS) or not is_kind(result):
        return False
    return all(_is_param(param) for param in params) and _is_whole_body(body)


def _is_param(thing):
    return is_tuple(thing, 2, 2) and is_low(thing[0]) and is_kind(thing[1])


def _is_whole_body(thing):
    """Whether it is a function's body. It stops at the bounds, for parts that are shared may be very many."""
    found = 0
    waiting = [(thing, True, 1)]
    while waiting:
        part, as_body, depth = waiting.pop()
        inner = _body_parts(part) if as_body else _term_parts(part)
        if inner is None:
            return False
        names, terms, bodies = inner
        found += 1 + names
        if found > MOST_PARTS or depth > MOST_CHAIN:
            return False
        waiting.extend([(term, False, depth + 1) for term in terms])
        waiting.extend([(body, True, depth + 1) for body in bodies])
    return True


def _body_parts(body):
    """How many names a body has itself, its expressions and its bodies; None if it is no body."""
    word = first_word(body)
    if word == "let" and len(body) == 4 and is_low(body[1]):
        return 1, (body[2],), (body[3],)
    if word == "if" and len(body) == 5:
        return 0, body[1:3], body[3:]
    if word == "give" and len(body) == 2:
        return 0, body[1:], ()
    if word == "match" and len(body) == 3 and is_tuple(body[2], 1, MOST_MAKERS):
        branches = body[2]
        if all(_is_branch(branch) for branch in branches):
            names = sum(len(branch[1]) for branch in branches)
            return names, (body[1],), tuple(branch[2] for branch in branches)
    return None


def _is_branch(thing):
    if not is_tuple(thing, 3, 3) or not is_high(thing[0]):
        return False
    return is_tuple(thing[1], 0, MOST_FIELDS) and all(is_low(name) for name in thing[1])


def _term_parts(term):
    """The like of an expression, which has no names and no bodies; None if it is no expression."""
    word = first_word(term)
    terms = None
    if word == "num" and len(term) == 2 and is_number(term[1]):
        terms = ()
    elif word == "name" and len(term) == 2 and is_low(term[1]):
        terms = ()
    elif word == "op" and len(term) == 4 and _is_sign(term[1]):
        terms = term[2:]
    elif word == "times" and len(term) == 3 and is_factor(term[1]):
        terms = term[2:]
    elif word == "make" and len(term) == 3 and is_high(term[1]) and is_tuple(term[2], 0, MOST_FIELDS):
        terms = term[2]
    elif word == "call" and len(term) == 3 and is_low(term[1]) and is_tuple(term[2], 0, MOST_PARAMS):
        terms = term[2]
    if terms is None:
        return None
    return 0, terms, ()


def _is_sign(thing):
    return isinstance(thing, str) and thing in ("+", "-")
