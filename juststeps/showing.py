"""Shows goals by hints: finds showings, or points at which the hints hold and a goal does not."""

from juststeps.duties import duties, need_priced_book
from juststeps.forms import atoms_in, is_atom
from juststeps.measures import never_below
from juststeps.names import is_tuple
from juststeps.outcomes import broken_row, falling_slope, least_multipliers, paper_of, point_of
from juststeps.ratios import is_ratio, ratio
from juststeps.showings import is_never_below, need_parts
from juststeps.systems import is_kept, slope_of, value_at
from juststeps.tableau import Tableau, make_least


def show(never, goal, hints):
    """("shown", a showing of the goal) or ("point", a point at which the hints hold and the goal does not)."""
    need_parts(never, goal, hints)
    return Shower(never, [goal], hints).show(goal)


def is_open(never, goal, hints, thing):
    """Whether any object is a point at which the hints hold and the goal does not."""
    need_parts(never, goal, hints)
    atoms = atoms_in([goal] + _forms(hints))
    if not is_tuple(thing, len(atoms), len(atoms)):
        return False
    if not all([_is_entry(entry, atom) for entry, atom in zip(thing, atoms)]):
        return False
    point = [part for _, part in thing]
    places = _places(atoms)
    return is_kept(_demands(never, places, hints), point) and value_at(_line(goal, places), point)[0] < 0


def show_book(core, prices, book):
    """("shown", showings of all duties) or ("point", the index of the first open duty, a point)."""
    need_priced_book(core, prices, book)
    never = never_below(core, book[0])
    found = []
    for goals, hints in _by_hints(duties(core, prices, book)):
        shower = Shower(never, goals, hints)
        for goal in goals:
            word, told = shower.show(goal)
            if word == "point":
                return word, len(found), told
            found.append(told)
    return "shown", tuple(found)


def _by_hints(found):
    """The goals of duties with their hints, those together that stand side by side and have equal hints."""
    groups = []
    for _, _, _, goal, hints in found:
        if groups and groups[-1][1] == hints:
            groups[-1][0].append(goal)
        else:
            groups.append(([goal], hints))
    return groups


class Shower:
    """Shows goals by the same hints, one after another; broken is the row of a demand that cannot be met, or None."""

    def __init__(self, never, goals, hints):
        self.hints = hints
        self.places = _places(atoms_in(goals + _forms(hints)))
        self.tableau = Tableau((len(self.places), _demands(never, self.places, hints)))
        self.broken = broken_row(self.tableau)

    def show(self, goal):
        if self.broken is not None:
            return "shown", (0, self.of_hints(paper_of(self.tableau, self.broken)))
        place = self.tableau.many
        self.tableau.relate_goal(place, _line(goal, self.places))
        entering = make_least(self.tableau, place, True)
        if entering is None and self.tableau.const(place) >= 0:
            showing = (self.tableau.scale(place), self.of_hints(least_multipliers(self.tableau, place)))
            found = "shown", showing
        else:
            found = "point", self.open_point(goal, place, entering)
        self.tableau.drop(place)
        return found

    def of_hints(self, multipliers):
        """The multipliers of the hints, which stand ahead of those of atoms that are never below 0."""
        return multipliers[:len(self.hints)]

    def open_point(self, goal, place, entering):
        """The point that is reached, gone on along a slope, if there is one, until the goal is below 0."""
        point = point_of(self.tableau)
        if entering is not None:
            slope = falling_slope(self.tableau, place, entering)
            line = _line(goal, self.places)
            top, bottom = value_at(line, point)
            times = max(0, top // (-slope_of(line, slope) * bottom) + 1)
            point = [ratio(over + times * more * under, under) for (over, under), more in zip(point, slope)]
        return tuple([(atom, point[self.places[atom]]) for atom in atoms_in([goal] + _forms(self.hints))])


def _is_entry(thing, atom):
    """Whether any object is the atom with a ratio."""
    return is_tuple(thing, 2, 2) and is_atom(thing[0]) and thing[0] == atom and is_ratio(thing[1])


def _forms(hints):
    return [form for form, _, _ in hints]


def _places(atoms):
    """The unknowns of atoms."""
    return {atom: place for place, atom in enumerate(atoms)}


def _line(form, places):
    """The line of a form, with its atoms' unknowns in their place."""
    const, terms = form
    return const, tuple([(places[atom], coefficient) for atom, coefficient in terms])


def _demands(never, places, hints):
    """The rows that demand that the hints hold, and then that what is never below 0 is not."""
    rows = [(_line(form, places), exact) for form, exact, _ in hints]
    return rows + [((0, ((places[atom], 1),)), False) for atom in places if is_never_below(never, atom)]
