"""What a tableau tells when its exchanges have come to an end: multipliers, points and slopes."""

from math import lcm

from juststeps.ratios import ratio
from juststeps.tableau import ONE, make_kept


def broken_row(tableau):
    """The row that cannot be kept, or None behind the exchanges with which all rows are kept."""
    broken = tableau.free_all()
    return make_kept(tableau) if broken is None else broken


def paper_of(tableau, row):
    """The multipliers that the relation of a row which cannot be kept tells."""
    relation = tableau.relations[row]
    sign = -1 if relation[ONE] < 0 else 1
    return tuple([sign * relation.get(tableau.count + other, 0) for other in range(tableau.many)])


def least_multipliers(tableau, goal):
    """The multipliers that show the least value of a goal's line behind its last exchange."""
    relation = tableau.relations[goal]
    return tuple([relation.get(tableau.count + row, 0) for row in range(tableau.many)])


def point_of(tableau):
    """The point at which all unknowns that are not basic are 0."""
    point = [(0, 1)] * tableau.count
    for row in tableau.basic:
        if tableau.is_free(tableau.basic[row]):
            point[tableau.basic[row]] = ratio(tableau.const(row), tableau.scale(row))
    return tuple(point)


def falling_slope(tableau, goal, entering):
    """How the system's unknowns change with one that lets the goal's line fall."""
    rows = [row for row in tableau.columns[entering] if tableau.is_free(tableau.basic[row])]
    common = 1
    for row in rows:
        common = lcm(common, tableau.scale(row))
    # A rest can only grow; one of the system's unknowns may go whichever way lets the line fall.
    if tableau.relations[goal][entering] > 0:
        common = -common
    slope = [0] * tableau.count
    for row in rows:
        slope[tableau.basic[row]] = tableau.relations[row][entering] * common // tableau.scale(row)
    if tableau.is_free(entering):
        slope[entering] = common
    return tuple(slope)
