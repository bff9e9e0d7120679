"""Cores: what is one, and the ways and event rows of its functions."""

from juststeps.errors import BadCore, BadName, BadRow
from juststeps.kinds import are_kinds, kinds_fault
from juststeps.names import MOST_FUNCTIONS, MOST_PARAMS, WHOLE, is_between, is_low, is_tuple
from juststeps.rowjudge import World, are_rows
from juststeps.rows import is_plain, way_to


def is_core(thing):
    """Whether any object is a core."""
    if not is_tuple(thing, 2, 2) or not are_kinds(thing[0]) or kinds_fault(thing[0]) is not None:
        return False
    kinds, functions = thing
    if not _are_functions([WHOLE] + [name for name, _ in kinds], functions):
        return False
    world = World(kinds, functions)
    return all(are_rows(world, function) for function in functions)


def way(core, name, row):
    """The ascending tuple of the rows that lead to a row from row 0, itself the last."""
    need_core(core)
    rows = core[1][place_of(core, name)][3]
    if not is_between(row, 0, len(rows) - 1):
        raise BadRow("the index of a row is wanted")
    return way_to(rows, row)


def event_rows(core, name):
    """The ascending tuple of the indexes of a function's event rows."""
    need_core(core)
    rows = core[1][place_of(core, name)][3]
    return tuple(at for at, row in enumerate(rows) if not is_plain(row))


def need_core(thing):
    """Raises BadCore for any object that is no core."""
    if not is_core(thing):
        raise BadCore("a core is wanted")


def place_of(core, name):
    """The index of the function with the name; raises BadName for any object that is no function's name."""
    if isinstance(name, str):
        for place, function in enumerate(core[1]):
            if function[0] == name:
                return place
    raise BadName("the name of a function of the core is wanted")


def _are_functions(kinds, thing):
    """Whether the heads of functions are as they must be; their rows are judged later."""
    if not is_tuple(thing, 0, MOST_FUNCTIONS):
        return False
    names = {}
    for function in thing:
        if not _is_head(kinds, function) or function[0] in names:
            return False
        names[function[0]] = True
    return True


def _is_head(kinds, function):
    if not is_tuple(function, 4, 4) or not is_low(function[0]) or not is_tuple(function[1], 0, MOST_PARAMS):
        return False
    return all(isinstance(kind, str) and kind in kinds for kind in function[1] + (function[2],))
