"""Exchanges unknowns in a system of lines, exactly, until it is kept, refuted or least.

Beside the system's unknowns each row has one more, its rest: the value of its line. A relation says that a sum of
integers times unknowns is 0. There is one relation for each row, in which just one unknown, the row's basic one, is
told by others, that are basic nowhere; these are all put to 0 for a point. A rest is to be 0 or more; that of an
exact row is to be 0, so it is bound as soon as it is not basic, and never becomes basic again.
"""

from math import gcd

ONE = -1
# So many exchanges that change nothing may follow one another before the least index decides.
MOST_IDLE = 40


class Tableau:
    """The relations by rows; columns has, for each unknown, the rows in whose relations it stands."""

    def __init__(self, system):
        self.count, rows = system
        self.many = len(rows)
        self.exact = {self.count + row: True for row, (_, exact) in enumerate(rows) if exact}
        self.single = [row for row, ((_, terms), exact) in enumerate(rows) if not exact and len(terms) == 1]
        self.relations = {}
        self.basic = {}
        self.columns = {}
        for row, (line, _) in enumerate(rows):
            self.relate(row, line)

    def relate(self, row, line):
        """Adds a relation that says what a line's rest is."""
        relation = {unknown: coefficient for unknown, coefficient in line[1]}
        if line[0] != 0:
            relation[ONE] = line[0]
        relation[self.count + row] = -1
        self.relations[row] = relation
        self.basic[row] = self.count + row
        for unknown in relation:
            self.columns.setdefault(unknown, {})[row] = True

    def relate_goal(self, row, line):
        """Adds the relation of a line that is no row's, told by what is not basic now."""
        self.relate(row, line)
        for other in list(self.basic):
            unknown = self.basic[other]
            if other != row and unknown in self.relations[row]:
                self.strike_out(row, other, unknown)

    def drop(self, row):
        """Takes a relation away."""
        for unknown in self.relations[row]:
            del self.columns[unknown][row]
        del self.relations[row]
        del self.basic[row]

    def scale(self, row):
        """The number, above 0, of times that the relation tells the row's basic unknown."""
        return -self.relations[row][self.basic[row]]

    def const(self, row):
        return self.relations[row].get(ONE, 0)

    def is_free(self, unknown):
        """Whether it is one of the system's unknowns, that may have any value."""
        return 0 <= unknown < self.count

    def may_enter(self, row, unknown):
        """Whether an unknown of the row's relation may become basic in it and then be 0 or more."""
        return unknown >= self.count and unknown not in self.exact and unknown != self.basic[row]

    def exchange(self, row, unknown):
        """Makes an unknown of the row's relation its basic one."""
        for other in list(self.columns[unknown]):
            if other != row:
                self.strike_out(other, row, unknown)
        self.basic[row] = unknown
        relation = self.relations[row]
        if relation[unknown] > 0:
            self.relations[row] = {each: -relation[each] for each in relation}

    def strike_out(self, row, other, unknown):
        """Adds another row's relation to the row's one so that the unknown does not stand there any more."""
        relation = self.relations[row]
        adding = self.relations[other]
        common = gcd(relation[unknown], adding[unknown])
        times = abs(adding[unknown]) // common
        plus = -relation[unknown] // common if adding[unknown] > 0 else relation[unknown] // common
        # Long relations are only copied if all of their numbers change.
        found = relation if times == 1 else {each: times * relation[each] for each in relation}
        for each in adding:
            worth = found.get(each, 0) + plus * adding[each]
            if worth != 0:
                found[each] = worth
                self.columns[each][row] = True
            elif each in found:
                del found[each]
                del self.columns[each][row]
        self.relations[row] = reduced(found)

    def free_all(self):
        """Makes the system's own unknowns basic, and rests of exact rows not, as far as that can be.

        Returns None, or the exact row that cannot be kept.
        """
        # The rest of a row with one unknown may stand for it at no cost.
        for row in self.single:
            self.exchange_for_free(row)
        for row in range(self.many):
            if self.basic[row] in self.exact and not self.exchange_for_free(row):
                entering = [each for each in self.relations[row] if self.may_enter(row, each)]
                if entering:
                    self.exchange(row, self.shortest(entering))
                elif self.const(row) != 0:
                    return row
        for row in range(self.many):
            if self.basic[row] == self.count + row:
                self.exchange_for_free(row)
        return None

    def exchange_for_free(self, row):
        """Makes one of the system's unknowns basic in the row; returns whether there is one."""
        free = [each for each in self.relations[row] if self.is_free(each)]
        if not free or self.is_free(self.basic[row]):
            return False
        self.exchange(row, self.shortest(free))
        return True

    def shortest(self, unknowns):
        """The unknown that stands in the fewest relations, so that the fewest are changed."""
        return min([(len(self.columns[each]), each) for each in unknowns])[1]

    def resting(self):
        """The rests that are not basic and not bound to be 0."""
        basic = {self.basic[row]: True for row in self.basic}
        rests = [self.count + row for row in range(self.many)]
        return [rest for rest in rests if rest not in basic and rest not in self.exact]

    def bounded(self):
        """The rows whose basic unknown is to be 0 or more."""
        return [row for row in self.basic if row < self.many and self.basic[row] >= self.count
                and self.basic[row] not in self.exact]


def reduced(relation):
    """The relation divided by what divides all its numbers."""
    common = 0
    for each in relation:
        common = gcd(common, relation[each])
        if common == 1:
            return relation
    return {each: relation[each] // common for each in relation}


def is_less(a, b):
    """Whether a ratio (top, bottom) is less than another one; the bottoms are above 0."""
    return a[0] * b[1] < b[0] * a[1]


def make_kept(tableau):
    """Exchanges unknowns until all rests are 0 or more; returns None, or a row that cannot be kept.

    A goal is made up of which each rest that is not basic costs 1. It stays least while rests below 0 go out, and
    grows with each exchange that changes anything, so that no lot of basic unknowns comes again.
    """
    goal = tableau.many
    tableau.relate(goal, (0, [(rest, 1) for rest in tableau.resting()]))
    idle = 0
    row = _most_broken(tableau, False)
    while row is not None:
        entering = _entering(tableau, row, goal)
        if entering is None:
            break
        idle = idle + 1 if entering not in tableau.relations[goal] else 0
        tableau.exchange(row, entering)
        row = _most_broken(tableau, idle > MOST_IDLE)
    tableau.drop(goal)
    return row


def _most_broken(tableau, by_index):
    """The row whose basic rest is furthest below 0, or the one with the least rest below 0; None if there is none."""
    broken = [row for row in tableau.bounded() if tableau.const(row) < 0]
    if not broken:
        return None
    if by_index:
        return min([(tableau.basic[row], row) for row in broken])[1]
    best = broken[0]
    for row in broken:
        if is_less((tableau.const(row), tableau.scale(row)), (tableau.const(best), tableau.scale(best))):
            best = row
    return best


def _entering(tableau, row, goal):
    """The unknown that makes the row's rest greater at the least cost, of several the one with the least index."""
    relation = tableau.relations[row]
    best = None
    for each in sorted(list(relation)):
        if relation[each] > 0 and tableau.may_enter(row, each):
            cost = (tableau.relations[goal].get(each, 0), relation[each])
            if best is None or is_less(cost, best[0]):
                best = (cost, each)
    return None if best is None else best[1]


def make_least(tableau, goal, until_below):
    """Exchanges unknowns until the goal's line is least, or just until it is below 0, if that is enough.

    Returns None, or the unknown along which the line falls for ever.
    """
    idle = 0
    while not until_below or tableau.const(goal) >= 0:
        entering = _falling(tableau, goal, idle > MOST_IDLE)
        if entering is None or tableau.is_free(entering):
            return entering
        row = _leaving(tableau, entering)
        if row is None:
            return entering
        idle = idle + 1 if tableau.const(row) == 0 else 0
        tableau.exchange(row, entering)
    return None


def _falling(tableau, goal, by_index):
    """The unknown with which the goal's line falls most, or that with the least index; None if there is none."""
    relation = tableau.relations[goal]
    found = [each for each in relation if tableau.is_free(each)]
    if found:
        return found[0]
    found = [(relation[each], each) for each in relation if relation[each] < 0 and tableau.may_enter(goal, each)]
    if not found:
        return None
    return min([each for _, each in found]) if by_index else min(found)[1]


def _leaving(tableau, entering):
    """The row whose rest becomes 0 first as the unknown grows, of several the one with the least rest; or None."""
    best = None
    for row in tableau.bounded():
        slope = tableau.relations[row].get(entering, 0)
        if slope < 0:
            room = (tableau.const(row), -slope)
            if best is None or is_less(room, best[0]) or (
                    not is_less(best[0], room) and tableau.basic[row] < tableau.basic[best[1]]):
                best = (room, row)
    return None if best is None else best[1]
