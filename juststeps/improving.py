"""Looks for steps that are let and are no open, going once through a function's rows."""

from juststeps.moves import folded_row, is_tail, numbers_of, reckoned, used_in
from juststeps.rows import is_plain


class Facts:
    """What is known on the way to a row.

    known has the variables of which it is known by which maker they are made; seen has what plain rows, and the
    branches of matches, have reckoned, with the row where they did.
    """

    def __init__(self, known, seen):
        self.known = known
        self.seen = seen

    def forked(self):
        return Facts(dict(self.known), dict(self.seen))

    def learn(self, at, variable, reckoning):
        self.seen[reckoning] = at
        if reckoning[0] == "make":
            self.known[variable] = True


def first_step(function):
    """The first step that is let in the function and is no open, or None."""
    name, rows = function[0], function[3]
    numbers = numbers_of(rows)
    used = used_in(rows)
    facts = Facts({}, {})
    ahead = {}
    for at, row in enumerate(rows):
        facts = ahead.get(at, facts)
        rule = _rule_at(rows, at, numbers, used, facts)
        if rule is not None:
            return (rule, name, at)
        if is_plain(row) and reckoned(row) in facts.seen:
            return ("reuse", name, at, facts.seen[reckoned(row)])
        _pass_row(row, at, facts, ahead)
    return None


def _rule_at(rows, at, numbers, used, facts):
    """The rule of a step at the row that is no reuse, or None."""
    row = rows[at]
    if is_plain(row) and row[1] not in used:
        return "drop"
    if folded_row(row, numbers) is not None:
        return "fold"
    if row[0] == "less" and row[1] in numbers and row[2] in numbers:
        return "decide"
    if row[0] == "match" and row[1] in facts.known:
        return "decide"
    return "tail" if is_tail(rows, at) else None


def _pass_row(row, at, facts, ahead):
    """Puts into ahead, by rows where branches begin, what is known there, or adds to the facts."""
    if is_plain(row):
        facts.learn(at, row[1], reckoned(row))
    elif row[0] == "less":
        ahead[at + 1] = facts.forked()
        ahead[row[3]] = facts
    elif row[0] == "match":
        for maker, parts, start in row[2]:
            ahead[start] = facts.forked()
            ahead[start].learn(at, row[1], ("make", maker, parts))
