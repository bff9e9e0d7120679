"""Showings and what they are judged by: numbers that are never below 0, goals and hints."""

from juststeps.errors import BadGoal, BadHints, BadNever
from juststeps.forms import combined, is_ascending, is_form
from juststeps.names import is_between, is_integer, is_tuple

MOST_NEVER = 12
MOST_HINTS = 8000
MOST_ORIGIN_ROW = 239
MOST_ORIGIN_CLAIM = 29


def need_parts(never, goal, hints):
    """Raises the error of the first of the arguments that is not right."""
    if not is_tuple(never, 0, MOST_NEVER) or not all([is_between(number, 1, MOST_NEVER) for number in never]):
        raise BadNever("at most twelve numbers from 1 to 12 are wanted")
    if not is_ascending(never):
        raise BadNever("ascending numbers are wanted")
    if not is_form(goal):
        raise BadGoal("a form is wanted")
    if not is_tuple(hints, 0, MOST_HINTS) or not all([_is_hint(hint) for hint in hints]):
        raise BadHints("at most 8000 hints are wanted")


def _is_hint(thing):
    if not is_tuple(thing, 3, 3) or not is_form(thing[0]) or not isinstance(thing[1], bool):
        return False
    return thing[2] is None or _is_origin(thing[2])


def _is_origin(thing):
    if not is_tuple(thing, 2, 2):
        return False
    return is_between(thing[0], 0, MOST_ORIGIN_ROW) and is_between(thing[1], 0, MOST_ORIGIN_CLAIM)


def is_never_below(never, atom):
    """Whether an atom is 0 or more whatever the run is, as steps and words of calls are."""
    return atom[0] == 1 or atom[2] in never



def shows(never, goal, hints, thing):
    """Whether any object is a showing that shows the goal."""
    if not _is_showing(thing, hints):
        return False
    scale, multipliers = thing
    taken = [(-multiplier, hint[0]) for multiplier, hint in zip(multipliers, hints) if multiplier != 0]
    const, terms = combined([(scale, goal)] + taken)
    if const < (1 if scale == 0 else 0):
        return False
    return all([coefficient > 0 and is_never_below(never, atom) for atom, coefficient in terms])


def _is_showing(thing, hints):
    if not is_tuple(thing, 2, 2) or not is_integer(thing[0]) or thing[0] < 0:
        return False
    multipliers = thing[1]
    if not is_tuple(multipliers, len(hints), len(hints)) or not all([is_integer(part) for part in multipliers]):
        return False
    return all([exact or part >= 0 for (_, exact, _), part in zip(hints, multipliers)])
