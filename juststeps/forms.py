"""Forms: a const and atoms, each taken so many times; what is one, and sums of them."""

from juststeps.names import is_between, is_integer, is_tuple

ONE = (1, ())
MOST_VARIABLE = 399
MOST_ROW = 239
MOST_NUMBER = 12


def is_form(thing):
    """Whether any object is a form whose atoms may be those of a core's function."""
    if not is_tuple(thing, 2, 2) or not is_integer(thing[0]) or not isinstance(thing[1], tuple):
        return False
    terms = thing[1]
    if not all([is_tuple(term, 2, 2) and is_atom(term[0]) and is_coefficient(term[1]) for term in terms]):
        return False
    return is_ascending([atom for atom, _ in terms])


def is_atom(thing):
    """Whether any object is an atom: a measure of a variable's value, or what a call takes."""
    if not is_tuple(thing, 3, 3) or not is_between(thing[0], 0, 1):
        return False
    if thing[0] == 0:
        return is_between(thing[1], -1, MOST_VARIABLE) and is_between(thing[2], 0, MOST_NUMBER)
    return is_between(thing[1], 0, MOST_ROW) and is_between(thing[2], 0, 1)


def is_coefficient(thing):
    """Whether any object is an integer that is not 0."""
    return is_integer(thing) and thing != 0


def is_ascending(keys):
    """Whether each key is greater than the one ahead."""
    return all([one < two for one, two in zip(keys, keys[1:])])


def combined(parts):
    """The sum of forms: parts are pairs of a number of times and a form."""
    const = 0
    found = {}
    for times, (more, terms) in parts:
        const += times * more
        for atom, coefficient in terms:
            found[atom] = found.get(atom, 0) + times * coefficient
    return const, tuple([(atom, found[atom]) for atom in sorted(list(found)) if found[atom] != 0])


def gathered(parts):
    """(form, slopes): the sum of parts (unknown, times, form), of those without an unknown (None) the form.

    slopes has, by unknown, the sum of the forms that are to be taken as many times as the unknown tells.
    """
    by_unknown = {}
    for unknown, times, form in parts:
        by_unknown.setdefault(unknown, []).append((times, form))
    slopes = {unknown: combined(by_unknown[unknown]) for unknown in by_unknown if unknown is not None}
    return combined(by_unknown.get(None, [])), slopes


def atoms_in(forms):
    """The ascending tuple of the atoms that stand in forms."""
    found = {atom: True for _, terms in forms for atom, _ in terms}
    return tuple(sorted(list(found)))
