"""Templates of claims, ranks and rooms: what is one, and the outlines in which their unknowns stand."""

from juststeps.books import MOST_CLAIMS, MOST_LEVEL, are_param_numbers, are_result_numbers, is_relation
from juststeps.errors import BadLevels, BadTemplate
from juststeps.measures import kinds_of
from juststeps.names import is_between, is_tuple
from juststeps.telling import Claim

MOST_TAKEN = 1000


def need_template(core, book, thing):
    """Raises BadTemplate for any object that is no template for the core and the book."""
    if not _is_template(core, book, thing):
        raise BadTemplate("a template of claims is wanted")


def need_levels(core, thing):
    """Raises BadLevels for any object that is no levels of the core's functions."""
    many = len(core[1])
    if not is_tuple(thing, many, many) or not all([is_between(level, 0, MOST_LEVEL) for level in thing]):
        raise BadLevels("an integer from 0 to 100 is wanted for each function")


def need_ins(core, book, thing):
    """Raises BadTemplate for any object that is no ins for each function of the core."""
    kinds = kinds_of(book[0])
    functions = core[1]
    if not is_tuple(thing, len(functions), len(functions)):
        raise BadTemplate("ins are wanted for each function")
    if not all([are_param_numbers(kinds, function, ins) for function, ins in zip(functions, thing)]):
        raise BadTemplate("params with numbers of measures of their kinds are wanted")


def _is_template(core, book, thing):
    if not is_tuple(thing, 4, 4) or not is_relation(thing[0]):
        return False
    if not is_between(thing[1], 0, MOST_TAKEN) or not is_between(thing[2], 0, MOST_TAKEN):
        return False
    functions, shapes = core[1], thing[3]
    if not is_tuple(shapes, len(functions), len(functions)):
        return False
    many = len([shape for shape in shapes if shape is not None])
    if not 1 <= many <= MOST_CLAIMS - len(book[2]):
        return False
    kinds = kinds_of(book[0])
    return all([shape is None or _is_shape(kinds, function, shape) for function, shape in zip(functions, shapes)])


def _is_shape(kinds, function, thing):
    if not is_tuple(thing, 2, 2) or not are_result_numbers(kinds, function, thing[0]):
        return False
    return are_param_numbers(kinds, function, thing[1])


class Unknowns:
    """Numbers the unknowns 0, 1, .. as they are asked for."""

    def __init__(self):
        self.many = 0

    def one(self):
        self.many += 1
        return self.many - 1

    def outline(self, ins):
        """The outline of a param form with an unknown for its const and for each of ins."""
        return [(self.one(), 1, place) for place in (None,) + ins]


def templated_claims(core, template, unknowns):
    """The claims of a template, with unknowns in their outlines."""
    relation, steps, words, shapes = template
    found = []
    for function, shape in zip(core[1], shapes):
        if shape is not None:
            ins = unknowns.outline(shape[1])
            outs = [(unknowns.one(), 1, number) for number in shape[0]]
            found.append(Claim(function[0], steps, words, outs, relation, ins))
    return found


def filled(outline, numbers):
    """The param form of an outline of unknowns, with a number for each of them."""
    const = numbers[outline[0][0]]
    terms = [place + (numbers[unknown],) for unknown, _, place in outline[1:]]
    return const, tuple([term for term in terms if term[2] != 0])


def claims_filled(claims, times, numbers):
    """The claims themselves, with a number for each unknown, and with steps and words taken so many times."""
    return tuple([
        (
            claim.name,
            times * claim.steps,
            times * claim.words,
            tuple([(number, numbers[unknown]) for unknown, _, number in claim.outs if numbers[unknown] != 0]),
            claim.relation,
            filled(claim.ins, numbers),
        )
        for claim in claims
    ])
