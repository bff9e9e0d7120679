"""Which variables are needed at the rows of a function, and which functions are light."""

from juststeps.rows import ENDING, bound_by, goes_on, used_by

MOST_NEEDED = 6


def needed_at(rows):
    """For each row the variables that are needed at it, as the keys of a dict."""
    needed = [{} for _ in rows]
    for at in range(len(rows) - 1, -1, -1):
        row = rows[at]
        bound = bound_by(row)
        behind = () if row[0] in ENDING else goes_on(row, at)
        for then in behind:
            for variable in needed[then]:
                if variable not in bound:
                    needed[at][variable] = True
        for variable in used_by(row):
            needed[at][variable] = True
    return needed


def is_light(rows, needed):
    """Whether a function with these rows has no call, and never more than six needed variables."""
    return all([row[0] != "call" for row in rows]) and all([len(those) <= MOST_NEEDED for those in needed])
