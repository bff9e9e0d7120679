"""Systems for what is to be found: unknown numbers of forms, and the multipliers with which duties are shown."""

from math import lcm

from juststeps.errors import TooGreat
from juststeps.measures import never_below
from juststeps.showings import is_never_below
from juststeps.systems import MOST_ROWS, MOST_UNKNOWNS

# In a line that is being summed, the key of what is taken once; unknowns are 0, 1, ..
ONCE = -1


class Rest:
    """The rest of a duty: constants and, by atom, lines tell how many times each unknown is taken."""

    def __init__(self):
        self.constants = {}
        self.lines = {}

    def put(self, form, unknown, times):
        """Adds so many times an unknown times a form."""
        const, terms = form
        self.constants[unknown] = self.constants.get(unknown, 0) + times * const
        for atom, coefficient in terms:
            line = self.lines.setdefault(atom, {})
            line[unknown] = line.get(unknown, 0) + times * coefficient

    def put_sloped(self, form, slopes, times):
        """Adds so many times a form and what unknowns add to it."""
        self.put(form, ONCE, times)
        for unknown in slopes:
            self.put(slopes[unknown], unknown, times)


class Search:
    """The system of new duties, which grows as they are added; count is the number of its unknowns.

    shares has, for each duty, a pair for each hint: (unknown, 0) of a free one, whose multiplier is the unknown;
    (None, times) of a tied one, which belongs to a claim with the index first or a greater one.
    """

    def __init__(self, core, book, count, first):
        self.never = never_below(core, book[0])
        self.count = count
        self.first = first
        self.rows = []
        self.shares = []

    def system(self):
        return self.count, tuple(self.rows)

    def include(self, duty, tied_times):
        """Adds the rows of a duty in which tied hints are used so many times; raises TooGreat if they are too many."""
        _, _, _, goal, hints = duty.stated
        shares = [self.share(origin, tied_times) for _, _, origin in hints]
        self.need_bounds()
        self.shares.append(shares)
        rest = Rest()
        rest.put_sloped(goal, duty.slopes, 1)
        for (form, exact, _), slopes, (unknown, times) in zip(hints, duty.hint_slopes, shares):
            if unknown is None:
                rest.put_sloped(form, slopes, -times)
                continue
            rest.put(form, unknown, -1)
            if not exact:
                self.rows.append(((0, ((unknown, 1),)), False))
        for atom in sorted(list(rest.lines)):
            self.rows.append((_line(rest.lines[atom]), not is_never_below(self.never, atom)))
        self.rows.append((_line(rest.constants), False))
        self.need_bounds()

    def share(self, origin, tied_times):
        if origin is not None and origin[1] >= self.first:
            return None, tied_times
        self.count += 1
        return self.count - 1, 0

    def need_bounds(self):
        if self.count > MOST_UNKNOWNS or len(self.rows) > MOST_ROWS:
            raise TooGreat("a system of at most 4000 unknowns and 12000 rows is wanted")

    def showings(self, numbers):
        """The showings of the duties, with numbers for the unknowns."""
        return tuple([
            (1, tuple([times if unknown is None else numbers[unknown] for unknown, times in shares]))
            for shares in self.shares
        ])


def _line(summed):
    terms = [(unknown, summed[unknown]) for unknown in sorted(list(summed)) if unknown != ONCE]
    return summed.get(ONCE, 0), tuple([term for term in terms if term[1] != 0])


def least_common(point):
    """The least integer from 1 on by which all ratios of a point become integers."""
    common = 1
    for _, bottom in point:
        common = lcm(common, bottom)
    return common


def times_point(times, point):
    """The integers that are so many times the ratios of a point."""
    return [top * times // bottom for top, bottom in point]
