"""Plain runs of cores, told by their values, their passed rows and their prices."""

from juststeps.cores import need_core, place_of
from juststeps.errors import BadArgs, BadKind, BadLimit, BadPrices
from juststeps.kinds import makers_by_name
from juststeps.names import WHOLE, is_between, is_tuple
from juststeps.rows import is_plain
from juststeps.running import run_of
from juststeps.values import are_words, value_of, words_of

MOST_GIVEN = 400
MOST_TOLD = 4000
MOST_LIMIT = 20000
MOST_PRICE = 10 ** 9


def is_value(core, kind, thing):
    """Whether any object is a tuple of the words of one value of the kind, of at most 400 words."""
    need_core(core)
    names = [WHOLE] + [name for name, _ in core[0]]
    if not isinstance(kind, str) or kind not in names:
        raise BadKind("whole or the name of a kind of the core is wanted")
    return are_words(makers_by_name(core[0]), kind, thing, MOST_GIVEN)


def run_plain(core, name, args, limit):
    """(end, value, bill) of a run of the function."""
    need_core(core)
    run = _demanded_run(core, name, args, limit)
    times = {}
    for passing in run.trail:
        times[passing] = times.get(passing, 0) + 1
    bill = tuple((place, row, times[(place, row)]) for place, row in sorted(list(times)))
    return _end(run), _value(run), bill


def passed(core, name, args, limit):
    """The event rows that a run passes, each with the index of its function, in their sequence."""
    need_core(core)
    run = _demanded_run(core, name, args, limit)
    return tuple((place, row) for place, row in run.trail if not is_plain(core[1][place][3][row]))


def run_priced(core, prices, name, args, limit):
    """(end, value, steps, words, top) of a run with prices for its rows."""
    need_core(core)
    need_prices(core, prices)
    run = _demanded_run(core, name, args, limit)
    priced = [prices[place][row] for place, row in run.trail]
    steps = sum([price[0] for price in priced if price is not None])
    words = sum([price[1] for price in priced if price is not None])
    return _end(run), _value(run), steps, words, _top(core, run.trail, priced)


def need_prices(core, thing):
    """Raises BadPrices for any object that is no prices of the core."""
    functions = core[1]
    if not is_tuple(thing, len(functions), len(functions)):
        raise BadPrices("a tuple with an entry for each function is wanted")
    for function, prices in zip(functions, thing):
        rows = function[3]
        if not is_tuple(prices, len(rows), len(rows)):
            raise BadPrices("a tuple with an entry for each row is wanted")
        if not all([_is_price_of(row, price) for row, price in zip(rows, prices)]):
            raise BadPrices("None or a price is wanted for each row, None for a plain one")


def need_args(core, place, thing):
    """Raises BadArgs for any object that is no arguments of the function at a place of the core."""
    params = core[1][place][1]
    makers = makers_by_name(core[0])
    if not is_tuple(thing, len(params), len(params)):
        raise BadArgs("a value for each param is wanted")
    if not all([are_words(makers, kind, words, MOST_GIVEN) for kind, words in zip(params, thing)]):
        raise BadArgs("words of a value of the param's kind are wanted")


def need_limit(thing):
    """Raises BadLimit for any object that is no limit of a run."""
    if not is_between(thing, 0, MOST_LIMIT):
        raise BadLimit("an integer from 0 to 20000 is wanted")


def _is_price_of(row, thing):
    if thing is None:
        return True
    if is_plain(row) or not is_tuple(thing, 4, 4):
        return False
    return all(is_between(part, 0, MOST_PRICE) for part in thing)


def _demanded_run(core, name, args, limit):
    """The run, behind the errors of its arguments; the core is judged already."""
    place = place_of(core, name)
    need_args(core, place, args)
    need_limit(limit)
    makers = makers_by_name(core[0])
    return run_of(core, place, [value_of(makers, words) for words in args], limit)


def _end(run):
    return "ended" if run.ended else "spent"


def _value(run):
    return words_of(run.value, MOST_TOLD) if run.ended else None


def _top(core, trail, priced):
    """The greatest sum of what open calls hold and of what a passed row tops."""
    top = 0
    held = 0
    open_calls = []
    for (place, row), price in zip(trail, priced):
        word = core[1][place][3][row][0]
        if price is not None:
            top = max(top, held + price[2])
        if word == "call":
            open_calls.append(0 if price is None else price[3])
            held += open_calls[-1]
        elif word == "give" and open_calls:
            held -= open_calls.pop()
    return top
