"""Rewritings of cores, step by step."""

from juststeps.cores import need_core
from juststeps.errors import BadLimit, BadLog, NotLet
from juststeps.improving import first_step
from juststeps.moves import decided, dropped, folded, opened, reused, tailed
from juststeps.names import first_word, is_between, is_tuple
from juststeps.rowjudge import World, are_rows

MOST_STEPS = 400
RULES = ("fold", "decide", "drop", "reuse", "tail", "open")


def rewritten(core, step):
    """The core behind a step; raises NotLet if it is not let."""
    need_core(core)
    other = _behind(core, step)
    if other is None:
        raise NotLet(0)
    return other


def replayed(core, log):
    """The core behind all steps of a log; raises NotLet with the index of the first that is not let."""
    need_core(core)
    if not is_tuple(log, 0, MOST_STEPS):
        raise BadLog("a tuple of at most 400 steps is wanted")
    for index, step in enumerate(log):
        core = _behind(core, step)
        if core is None:
            raise NotLet(index)
    return core


def improve(core, most):
    """(other, log): at most so many steps, none an open, and the core behind them."""
    need_core(core)
    if not is_between(most, 0, MOST_STEPS):
        raise BadLimit("an integer from 0 to 400 is wanted")
    log = []
    for place in range(len(core[1])):
        step = first_step(core[1][place])
        while step is not None and len(log) < most:
            log.append(step)
            core = _behind(core, step)
            step = first_step(core[1][place])
    return core, tuple(log)


def _behind(core, step):
    """The core behind any object as a step, or None if it is not let."""
    place = _place_of_step(core, step)
    if place is None:
        return None
    kinds, functions = core
    function = functions[place]
    rows = _rows_behind(functions, function, step)
    if rows is None:
        return None
    other = function[:3] + (rows,)
    if not are_rows(World(kinds, functions), other):
        return None
    return kinds, functions[:place] + (other,) + functions[place + 1:]


def _place_of_step(core, step):
    """The index of the function that a step names, or None if it has not the form of a step for the core."""
    rule = first_word(step)
    if rule not in RULES or len(step) != (4 if rule == "reuse" else 3) or not isinstance(step[1], str):
        return None
    for place, function in enumerate(core[1]):
        if function[0] == step[1] and all(is_between(row, 0, len(function[3]) - 1) for row in step[2:]):
            return place
    return None


def _rows_behind(functions, function, step):
    """The rows of the function behind a step, or None if it does not fit."""
    rule, rows, at = step[0], function[3], step[2]
    if rule == "fold":
        return folded(rows, at)
    if rule == "decide":
        return decided(rows, at)
    if rule == "drop":
        return dropped(rows, at)
    if rule == "reuse":
        return reused(rows, at, step[3])
    if rule == "tail":
        return tailed(rows, at)
    return opened(functions, function, at)
