"""The rows of a core's function: what they bind and use, where they go on, and rows that are moved along."""

MAKING = ("num", "add", "sub", "times", "make")
ENDING = ("give", "go")


def is_plain(row):
    """Whether the row is a plain row; the others are event rows."""
    return row[0] in MAKING


def bound_by(row):
    """The variables that the row binds, of a match branch by branch."""
    if row[0] == "match":
        return tuple(variable for branch in row[2] for variable in branch[1])
    if is_plain(row) or row[0] == "call":
        return (row[1],)
    return ()


def used_by(row):
    """The variables that the row uses."""
    word = row[0]
    if word in ("add", "sub"):
        return row[2:]
    if word == "times":
        return (row[2],)
    if word in ("make", "call"):
        return row[3]
    if word == "less":
        return row[1:3]
    if word in ("match", "give"):
        return (row[1],)
    return row[2] if word == "go" else ()


def goes_on(row, at):
    """The ascending tuple of the rows that the row at an index, which is no end, goes on to."""
    if row[0] == "less":
        return (at + 1, row[3])
    if row[0] == "match":
        return tuple(branch[2] for branch in row[2])
    return (at + 1,)


def way_to(rows, at):
    """The rows that lead from row 0 to the row at an index, itself the last."""
    here = 0
    found = [here]
    while here != at:
        here = max([start for start in goes_on(rows[here], here) if start <= at])
        found.append(here)
    return tuple(found)


def behind(rows, at):
    """The index of the first row behind all rows that can be come to from the row at an index."""
    while rows[at][0] not in ENDING:
        at = goes_on(rows[at], at)[-1]
    return at + 1


def branch_from(row, start):
    """The branch of a match row that goes on at a row."""
    return [branch for branch in row[2] if branch[2] == start][0]


def renamed(row, names):
    """The row with names[x] in the place of each variable x that is among names."""
    word = row[0]
    if word == "num":
        return (word, names.get(row[1], row[1]), row[2])
    if word == "times":
        return (word, names.get(row[1], row[1]), names.get(row[2], row[2]), row[3])
    if word in ("make", "call"):
        return (word, names.get(row[1], row[1]), row[2], _all_renamed(row[3], names))
    if word == "less":
        return (word,) + _all_renamed(row[1:3], names) + row[3:]
    if word == "match":
        branches = tuple((maker, _all_renamed(parts, names), start) for maker, parts, start in row[2])
        return (word, names.get(row[1], row[1]), branches)
    if word == "go":
        return (word, row[1], _all_renamed(row[2], names))
    return (word,) + _all_renamed(row[1:], names)


def _all_renamed(variables, names):
    return tuple(names.get(variable, variable) for variable in variables)


def moved_along(row, places):
    """The row with places[j] in the place of each index j at which it goes on."""
    if row[0] == "less":
        return row[:3] + (places[row[3]],)
    if row[0] == "match":
        branches = tuple((maker, parts, places[start]) for maker, parts, start in row[2])
        return row[:2] + (branches,)
    return row


def only_kept(rows, kept):
    """The rows with the ascending indexes kept; the others fall away.

    An index that led to a row that falls away leads to the first kept row behind it.
    """
    places = []
    staying = 0
    for at in range(len(rows)):
        places.append(staying)
        if staying < len(kept) and kept[staying] == at:
            staying += 1
    return tuple(moved_along(rows[at], places) for at in kept)


def with_other(rows, at, coming):
    """The rows with others in the place of the one at an index; the others count from 0 themselves."""
    more = len(coming) - 1
    places = [place if place <= at else place + more for place in range(len(rows))]
    own = [at + place for place in range(len(coming))]
    old = [moved_along(row, places) for row in rows]
    new = [moved_along(row, own) for row in coming]
    return tuple(old[:at] + new + old[at + 1:])
