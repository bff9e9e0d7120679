"""Books: what is one, and what its forms tell of the arguments and values of runs."""

from juststeps.cores import need_core, place_of
from juststeps.errors import BadBook, BadIndex, BadNeeds
from juststeps.forms import is_ascending, is_coefficient
from juststeps.measures import are_measures, belongs, kinds_of, measures_of, need_words, never_below
from juststeps.names import is_between, is_integer, is_tuple
from juststeps.plain import need_args

MOST_NEEDS = 4
MOST_CLAIMS = 30
MOST_LEVEL = 100
RELATIONS = ("most", "least", "just")


def is_book(core, thing):
    """Whether any object is a book for the core."""
    need_core(core)
    if not is_tuple(thing, 5, 5) or not are_measures(core, thing[0]):
        return False
    measures, needs, claims, ranks, rooms = thing
    kinds = kinds_of(measures)
    functions = core[1]
    return (
        _are_each(kinds, functions, needs, _are_needs)
        and is_tuple(claims, 0, MOST_CLAIMS)
        and all([_is_claim(kinds, functions, claim) for claim in claims])
        and (ranks is None or _are_each(kinds, functions, ranks, _is_rank))
        and (rooms is None or _are_each(kinds, functions, rooms, is_param_form))
    )


def claimed(core, book, index, args):
    """The number that the claim with the index has as its in of the arguments."""
    need_core(core)
    need_book(core, book)
    name, _, _, _, _, form = _claim_at(book, index)
    need_args(core, place_of(core, name), args)
    return number_of_args(core, book, form, args)


def left(core, book, index, words):
    """The number that the claim with the index has as its out of a value, told by words."""
    need_core(core)
    need_book(core, book)
    name, _, _, terms, _, _ = _claim_at(book, index)
    need_words(core, core[1][place_of(core, name)][2], words)
    found = measures_of(core, book[0], [number for number, _ in terms], words)
    return sum([coefficient * found[number] for number, coefficient in terms])


def roomed(core, book, name, args):
    """The number that the function's room form has of the arguments; None if the book has no rooms."""
    need_core(core)
    need_book(core, book)
    place = place_of(core, name)
    need_args(core, place, args)
    return None if book[4] is None else number_of_args(core, book, book[4][place], args)


def keeps_needs(core, book, name, args):
    """Whether the arguments keep the needs of the function."""
    need_core(core)
    need_book(core, book)
    place = place_of(core, name)
    need_args(core, place, args)
    return all([number_of_args(core, book, form, args) >= 0 for form in book[1][place]])


def bounds(core, book, name, args):
    """(low, high): what claims tell of the steps of an ended run without its value; high may be None."""
    if not keeps_needs(core, book, name, args):
        raise BadNeeds("arguments that keep the needs of the function are wanted")
    never = never_below(core, book[0])
    low = 0
    high = None
    for claim in book[2]:
        if claim[0] == name and claim[1] > 0:
            number = number_of_args(core, book, claim[5], args)
            most = number // claim[1]
            if _tells_high(never, claim) and (high is None or most < high):
                high = most
            if _tells_low(claim):
                low = max(low, -(-number // claim[1]))
    return low, high


def need_book(core, thing):
    """Raises BadBook for any object that is no book for the core."""
    if not is_book(core, thing):
        raise BadBook("a book for the core is wanted")


def number_of_args(core, book, form, args):
    """The number that a param form of a function has of its arguments."""
    const, terms = form
    wanted = {}
    for param, number, _ in terms:
        wanted.setdefault(param, []).append(number)
    found = {param: measures_of(core, book[0], wanted[param], args[param]) for param in wanted}
    return const + sum([coefficient * found[param][number] for param, number, coefficient in terms])


def is_param_form(kinds, function, thing):
    """Whether any object is a param form of a function; kinds are those of the measures' numbers."""
    if not is_tuple(thing, 2, 2) or not is_integer(thing[0]) or not isinstance(thing[1], tuple):
        return False
    if not all([is_tuple(term, 3, 3) and is_coefficient(term[2]) for term in thing[1]]):
        return False
    return are_param_numbers(kinds, function, tuple([term[:2] for term in thing[1]]))


def are_param_numbers(kinds, function, thing):
    """Whether any object is an ascending tuple of params with numbers that belong to their kinds."""
    if not isinstance(thing, tuple):
        return False
    params = function[1]
    for pair in thing:
        if not is_tuple(pair, 2, 2) or not is_between(pair[0], 0, len(params) - 1):
            return False
        if not belongs(kinds, pair[1], params[pair[0]]):
            return False
    return is_ascending(thing)


def are_result_numbers(kinds, function, thing):
    """Whether any object is an ascending tuple of numbers that belong to the function's result."""
    if not isinstance(thing, tuple) or not all([belongs(kinds, number, function[2]) for number in thing]):
        return False
    return is_ascending(thing)


def is_relation(thing):
    """Whether any object is the word for how a claim's two sides stand."""
    return isinstance(thing, str) and thing in RELATIONS


def _are_each(kinds, functions, thing, judge):
    """Whether any object is a tuple with an entry for each function, which the judge lets by."""
    if not is_tuple(thing, len(functions), len(functions)):
        return False
    return all([judge(kinds, function, part) for function, part in zip(functions, thing)])


def _are_needs(kinds, function, thing):
    return is_tuple(thing, 0, MOST_NEEDS) and all([is_param_form(kinds, function, form) for form in thing])


def _is_rank(kinds, function, thing):
    if not is_tuple(thing, 2, 2) or not is_between(thing[0], 0, MOST_LEVEL):
        return False
    return is_param_form(kinds, function, thing[1])


def _is_claim(kinds, functions, thing):
    if not is_tuple(thing, 6, 6) or not isinstance(thing[0], str):
        return False
    name, steps, words, terms, relation, form = thing
    found = [function for function in functions if function[0] == name]
    if not found or not is_integer(steps) or not is_integer(words) or steps < 0 or words < 0:
        return False
    if not is_relation(relation) or not isinstance(terms, tuple):
        return False
    if not all([is_tuple(term, 2, 2) and is_coefficient(term[1]) for term in terms]):
        return False
    numbers = tuple([term[0] for term in terms])
    return are_result_numbers(kinds, found[0], numbers) and is_param_form(kinds, found[0], form)


def _claim_at(book, thing):
    """The claim with the index; raises BadIndex for any object that is none."""
    if not is_between(thing, 0, len(book[2]) - 1):
        raise BadIndex("the index of a claim of the book is wanted")
    return book[2][thing]


def _tells_high(never, claim):
    """Whether a claim with steps bounds them from above, whatever the value is."""
    return claim[4] != "least" and all([coefficient > 0 and number in never for number, coefficient in claim[3]])


def _tells_low(claim):
    """Whether a claim with steps bounds them from below, whatever the value and the heap words are."""
    return claim[4] != "most" and claim[2] == 0 and claim[3] == ()
