"""The six steps of rewriting at one row; each returns the rows behind it, or None if it does not fit."""

from juststeps.names import is_number
from juststeps.rows import behind, bound_by, branch_from, is_plain
from juststeps.rows import only_kept, renamed, used_by, way_to, with_other


def numbers_of(rows):
    """The known numbers: the variables that num rows bind."""
    return {row[1]: row[2] for row in rows if row[0] == "num"}


def used_in(rows):
    """The variables that rows use, as the keys of a dict."""
    return {variable: True for row in rows for variable in used_by(row)}


def all_renamed(rows, names):
    return tuple(renamed(row, names) for row in rows)


def known_as(rows, at, variable):
    """(maker, args) as which a variable is known at a row, or None; the first row of the way that tells it does."""
    found = way_to(rows, at)
    for here, there in zip(found, found[1:]):
        row = rows[here]
        if row[0] == "make" and row[1] == variable:
            return row[2:]
        if row[0] == "match" and row[1] == variable:
            return branch_from(row, there)[:2]
    return None


def folded_row(row, numbers):
    """The num row that a row becomes, or None."""
    if row[0] not in ("add", "sub", "times") or not all(side in numbers for side in used_by(row)):
        return None
    left = numbers[row[2]]
    if row[0] == "times":
        number = left * row[3]
    elif row[0] == "add":
        number = left + numbers[row[3]]
    else:
        number = left - numbers[row[3]]
    return ("num", row[1], number) if is_number(number) else None


def folded(rows, at):
    row = folded_row(rows[at], numbers_of(rows))
    if row is None:
        return None
    return rows[:at] + (row,) + rows[at + 1:]


def decided(rows, at):
    row = rows[at]
    if row[0] == "less":
        numbers = numbers_of(rows)
        if row[1] not in numbers or row[2] not in numbers:
            return None
        return _only_taken(rows, at, at + 1 if numbers[row[1]] < numbers[row[2]] else row[3], {})
    if row[0] != "match":
        return None
    known = known_as(rows, at, row[1])
    if known is None:
        return None
    branch = [each for each in row[2] if each[0] == known[0]][0]
    return _only_taken(rows, at, branch[2], dict(zip(branch[1], known[1])))


def _only_taken(rows, at, start, names):
    """The rows without a decided row and its branches but the one that begins at start."""
    kept = list(range(at)) + list(range(start, behind(rows, start))) + list(range(behind(rows, at), len(rows)))
    return all_renamed(only_kept(rows, kept), names)


def without_row(rows, at):
    return only_kept(rows, list(range(at)) + list(range(at + 1, len(rows))))


def dropped(rows, at):
    row = rows[at]
    if not is_plain(row) or row[1] in used_in(rows):
        return None
    return without_row(rows, at)


def reckoned(row):
    """What a plain row reckons: all of it but the variable that it binds."""
    return row[:1] + row[2:]


def reused(rows, at, other):
    row = rows[at]
    found = way_to(rows, at)
    if not is_plain(row) or other not in found[:-1]:
        return None
    if is_plain(rows[other]) and reckoned(rows[other]) == reckoned(row):
        return all_renamed(without_row(rows, at), {row[1]: rows[other][1]})
    if row[0] != "make" or rows[other][0] != "match":
        return None
    branch = branch_from(rows[other], [here for here in found if here > other][0])
    if branch[:2] != row[2:]:
        return None
    return all_renamed(without_row(rows, at), {row[1]: rows[other][1]})


def is_tail(rows, at):
    """Whether a row is a call whose value the next row gives."""
    return rows[at][0] == "call" and rows[at + 1] == ("give", rows[at][1])


def tailed(rows, at):
    if not is_tail(rows, at):
        return None
    going = rows[:at] + (("go",) + rows[at][2:],) + rows[at + 1:]
    return without_row(going, at + 1)


def opened(functions, function, at):
    row = function[3][at]
    if row[0] not in ("call", "go"):
        return None
    name, given = row[-2:]
    coming = [each[3] for each in functions if each[0] == name][0]
    names = _names_within(function, coming, given)
    if row[0] == "go":
        return with_other(function[3], at, all_renamed(coming, names))
    if any(each[0] in ("less", "match", "go") for each in coming):
        return None
    told = renamed(coming[-1], names)[1]
    return all_renamed(with_other(function[3], at, all_renamed(coming[:-1], names)), {row[1]: told})


def _names_within(function, coming, given):
    """The variables of rows that come in, by the variables of the function from which they come."""
    names = dict(enumerate(given))
    bound = [variable for row in function[3] for variable in bound_by(row)]
    fresh = max(bound + [len(function[1]) - 1]) + 1
    for row in coming:
        for variable in bound_by(row):
            names[variable] = fresh
            fresh += 1
    return names
