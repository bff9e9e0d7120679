"""Exact lines: judges of points, multipliers and least values of systems, and what finds them."""

from juststeps.errors import BadLine, BadSystem
from juststeps.names import first_word, is_integer, is_tuple
from juststeps.outcomes import broken_row, falling_slope, least_multipliers, paper_of, point_of
from juststeps.systems import are_multipliers, is_kept, is_line, is_point, is_system, slope_of, summed, value_at
from juststeps.tableau import Tableau, make_least


def keeps(system, thing):
    """Whether any object is a point of the system that keeps it."""
    need_system(system)
    count, rows = system
    return is_point(thing, count) and is_kept(rows, thing)


def refutes(system, thing):
    """Whether any object is multipliers that refute the system."""
    need_system(system)
    rows = system[1]
    if not are_multipliers(rows, thing):
        return False
    const, terms = summed(rows, thing)
    return const < 0 and not terms


def is_least(system, line, thing):
    """Whether any object is what least may return for the system and the line."""
    need_system(system)
    _need_line(system, line)
    word = first_word(thing)
    if word == "paper":
        return len(thing) == 2 and refutes(system, thing[1])
    if word == "least":
        return len(thing) == 4 and keeps(system, thing[1]) and _is_shown(system[1], line, thing)
    if word == "below":
        return len(thing) == 3 and keeps(system, thing[1]) and _falls_along(system, line, thing[2])
    return False


def solve(system):
    """("point", a point that keeps the system) or ("paper", multipliers that refute it)."""
    need_system(system)
    tableau = Tableau(system)
    broken = broken_row(tableau)
    if broken is not None:
        return "paper", paper_of(tableau, broken)
    return "point", point_of(tableau)


def least(system, line):
    """The least value of the line where the system is kept, as one of the three that is_least judges."""
    need_system(system)
    _need_line(system, line)
    tableau = Tableau(system)
    broken = broken_row(tableau)
    if broken is not None:
        return "paper", paper_of(tableau, broken)
    goal = tableau.many
    tableau.relate_goal(goal, line)
    entering = make_least(tableau, goal, False)
    if entering is not None:
        return "below", point_of(tableau), falling_slope(tableau, goal, entering)
    return "least", point_of(tableau), tableau.scale(goal), least_multipliers(tableau, goal)


def need_system(thing):
    """Raises BadSystem for any object that is no system."""
    if not is_system(thing):
        raise BadSystem("a system of lines is wanted")


def _need_line(system, thing):
    if not is_line(thing, system[0]):
        raise BadLine("a line of the system's unknowns is wanted")


def _is_shown(rows, line, thing):
    """Whether the multipliers show that the point's value is the least one."""
    _, point, scale, multipliers = thing
    if not is_integer(scale) or scale < 1 or not are_multipliers(rows, multipliers):
        return False
    const, terms = summed(rows, multipliers)
    if terms != {unknown: scale * coefficient for unknown, coefficient in line[1]}:
        return False
    top, bottom = value_at(line, point)
    return (scale * line[0] - const) * bottom == scale * top


def _falls_along(system, line, slope):
    """Whether the slope keeps the system, and the line falls along it."""
    count, rows = system
    if not is_tuple(slope, count, count) or not all([is_integer(part) for part in slope]):
        return False
    for each, exact in rows:
        rise = slope_of(each, slope)
        if rise < 0 or (exact and rise > 0):
            return False
    return slope_of(line, slope) < 0
