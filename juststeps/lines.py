"""Exact lines: judges of points, multipliers and least values of systems, and what finds them."""

from math import lcm

from juststeps.errors import BadLine, BadSystem
from juststeps.names import first_word, is_integer, is_tuple
from juststeps.ratios import ratio
from juststeps.systems import are_multipliers, is_kept, is_line, is_point, is_system, slope_of, summed, value_at
from juststeps.tableau import ONE, Tableau, make_kept, make_least


def keeps(system, thing):
    """Whether any object is a point of the system that keeps it."""
    need_system(system)
    count, rows = system
    return is_point(thing, count) and is_kept(rows, thing)


def refutes(system, thing):
    """Whether any object is multipliers that refute the system."""
    need_system(system)
    rows = system[1]
    if not are_multipliers(rows, thing):
        return False
    const, terms = summed(rows, thing)
    return const < 0 and not terms


def is_least(system, line, thing):
    """Whether any object is what least may return for the system and the line."""
    need_system(system)
    _need_line(system, line)
    word = first_word(thing)
    if word == "paper":
        return len(thing) == 2 and refutes(system, thing[1])
    if word == "least":
        return len(thing) == 4 and keeps(system, thing[1]) and _is_shown(system[1], line, thing)
    if word == "below":
        return len(thing) == 3 and keeps(system, thing[1]) and _falls_along(system, line, thing[2])
    return False


def solve(system):
    """("point", a point that keeps the system) or ("paper", multipliers that refute it)."""
    need_system(system)
    tableau = Tableau(system)
    broken = _broken_row(tableau)
    if broken is not None:
        return "paper", _paper(tableau, broken)
    return "point", _point(tableau)


def least(system, line):
    """The least value of the line where the system is kept, as one of the three that is_least judges."""
    need_system(system)
    _need_line(system, line)
    tableau = Tableau(system)
    broken = _broken_row(tableau)
    if broken is not None:
        return "paper", _paper(tableau, broken)
    goal = tableau.many
    tableau.relate_goal(goal, line)
    entering = make_least(tableau, goal)
    if entering is not None:
        return "below", _point(tableau), _slope(tableau, goal, entering)
    relation = tableau.relations[goal]
    multipliers = [relation.get(tableau.count + row, 0) for row in range(tableau.many)]
    return "least", _point(tableau), tableau.scale(goal), tuple(multipliers)


def need_system(thing):
    """Raises BadSystem for any object that is no system."""
    if not is_system(thing):
        raise BadSystem("a system of lines is wanted")


def _need_line(system, thing):
    if not is_line(thing, system[0]):
        raise BadLine("a line of the system's unknowns is wanted")


def _is_shown(rows, line, thing):
    """Whether the multipliers show that the point's value is the least one."""
    _, point, scale, multipliers = thing
    if not is_integer(scale) or scale < 1 or not are_multipliers(rows, multipliers):
        return False
    const, terms = summed(rows, multipliers)
    if terms != {unknown: scale * coefficient for unknown, coefficient in line[1]}:
        return False
    top, bottom = value_at(line, point)
    return (scale * line[0] - const) * bottom == scale * top


def _falls_along(system, line, slope):
    """Whether the slope keeps the system, and the line falls along it."""
    count, rows = system
    if not is_tuple(slope, count, count) or not all([is_integer(part) for part in slope]):
        return False
    for each, exact in rows:
        rise = slope_of(each, slope)
        if rise < 0 or (exact and rise > 0):
            return False
    return slope_of(line, slope) < 0


def _broken_row(tableau):
    """The row that cannot be kept, or None behind the exchanges with which all rows are kept."""
    broken = tableau.free_all()
    return make_kept(tableau) if broken is None else broken


def _paper(tableau, row):
    """The multipliers that the relation of a row which cannot be kept tells."""
    relation = tableau.relations[row]
    sign = -1 if relation[ONE] < 0 else 1
    return tuple([sign * relation.get(tableau.count + other, 0) for other in range(tableau.many)])


def _point(tableau):
    """The point at which all unknowns that are not basic are 0."""
    point = [(0, 1)] * tableau.count
    for row in tableau.basic:
        if tableau.is_free(tableau.basic[row]):
            point[tableau.basic[row]] = ratio(tableau.const(row), tableau.scale(row))
    return tuple(point)


def _slope(tableau, goal, entering):
    """How the system's unknowns change with one that lets the goal's line fall."""
    rows = [row for row in tableau.columns[entering] if tableau.is_free(tableau.basic[row])]
    common = 1
    for row in rows:
        common = lcm(common, tableau.scale(row))
    # A rest can only grow; one of the system's unknowns may go whichever way lets the line fall.
    if tableau.relations[goal][entering] > 0:
        common = -common
    slope = [0] * tableau.count
    for row in rows:
        slope[tableau.basic[row]] = tableau.relations[row][entering] * common // tableau.scale(row)
    if tableau.is_free(entering):
        slope[entering] = common
    return tuple(slope)
