"""Systems of lines: what is one, and what points and multipliers do with their lines."""

from math import gcd

from juststeps.names import is_between, is_integer, is_tuple
from juststeps.ratios import is_ratio

MOST_UNKNOWNS = 4000
MOST_ROWS = 12000


def is_system(thing):
    """Whether any object is a system."""
    if not is_tuple(thing, 2, 2) or not is_between(thing[0], 0, MOST_UNKNOWNS):
        return False
    count, rows = thing
    return is_tuple(rows, 0, MOST_ROWS) and all([_is_row(row, count) for row in rows])


def _is_row(thing, count):
    return is_tuple(thing, 2, 2) and isinstance(thing[1], bool) and is_line(thing[0], count)


def is_line(thing, count):
    """Whether any object is a line whose unknowns are below count."""
    if not is_tuple(thing, 2, 2) or not is_integer(thing[0]) or not is_tuple(thing[1], 0, count):
        return False
    least = 0
    for term in thing[1]:
        if not is_tuple(term, 2, 2) or not is_between(term[0], least, count - 1):
            return False
        if not is_integer(term[1]) or term[1] == 0:
            return False
        least = term[0] + 1
    return True


def is_point(thing, count):
    """Whether any object is a point of a system with so many unknowns."""
    return is_tuple(thing, count, count) and all([is_ratio(part) for part in thing])


def are_multipliers(rows, thing):
    """Whether any object is multipliers for the rows of a system."""
    if not is_tuple(thing, len(rows), len(rows)) or not all([is_integer(part) for part in thing]):
        return False
    return all([exact or part >= 0 for (_, exact), part in zip(rows, thing)])


def value_at(line, point):
    """(top, bottom) of a line's value at a point, not in lowest terms, the bottom from 1 on."""
    top, terms = line
    bottom = 1
    for unknown, coefficient in terms:
        over, under = point[unknown]
        common = gcd(bottom, under)
        top = top * (under // common) + coefficient * over * (bottom // common)
        bottom *= under // common
    return top, bottom


def is_kept(rows, point):
    """Whether a point meets the demands of all rows."""
    for line, exact in rows:
        top, _ = value_at(line, point)
        if top < 0 or (exact and top > 0):
            return False
    return True


def slope_of(line, slope):
    """The sum of the line's coefficients times the integers of a slope."""
    return sum([coefficient * slope[unknown] for unknown, coefficient in line[1]])


def summed(rows, multipliers):
    """(const, terms) of the sum of multipliers times lines, terms a dict of coefficients that are not 0."""
    const = 0
    terms = {}
    for (line, _), multiplier in zip(rows, multipliers):
        if multiplier != 0:
            const += multiplier * line[0]
            for unknown, coefficient in line[1]:
                terms[unknown] = terms.get(unknown, 0) + multiplier * coefficient
    return const, {unknown: terms[unknown] for unknown in terms if terms[unknown] != 0}
