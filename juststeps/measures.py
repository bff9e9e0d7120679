"""Measures of made values: what are measures, what they are of a value, and which are never below 0."""

from juststeps.cores import need_core
from juststeps.errors import BadArgs, BadMeasures, BadNumber
from juststeps.forms import is_ascending
from juststeps.kinds import makers_by_kind, makers_by_name
from juststeps.names import WHOLE, is_between, is_factor, is_tuple
from juststeps.plain import MOST_TOLD
from juststeps.values import are_words

MOST_MEASURES = 12


def measured(core, measures, number, words):
    """The measure with the number of the value that the words tell."""
    need_core(core)
    need_measures(core, measures)
    if not is_between(number, 0, len(measures)):
        raise BadNumber("an integer from 0 to the number of measures is wanted")
    need_words(core, kinds_of(measures)[number], words)
    return measures_of(core, measures, [number], words)[number]


def never_below(core, measures):
    """The ascending tuple of the numbers of measures that are 0 or more and need only each other."""
    need_core(core)
    need_measures(core, measures)
    lot = {number: True for number in range(1, len(measures) + 1)}
    gone = [number for number in lot if not _stays(measures[number - 1], lot)]
    while gone:
        for number in gone:
            del lot[number]
        gone = [number for number in lot if not _stays(measures[number - 1], lot)]
    return tuple(sorted(list(lot)))


def need_measures(core, thing):
    """Raises BadMeasures for any object that is no measures for the core."""
    if not are_measures(core, thing):
        raise BadMeasures("measures for the kinds of the core are wanted")


def need_words(core, kind, thing):
    """Raises BadArgs for any object that is no words, at most 4,000, of a value of the kind."""
    if not are_words(makers_by_name(core[0]), kind, thing, MOST_TOLD):
        raise BadArgs("at most 4000 words of a value of the kind are wanted")


def are_measures(core, thing):
    """Whether any object is measures for the kinds of a core."""
    if not is_tuple(thing, 0, MOST_MEASURES):
        return False
    makers = makers_by_kind(core[0])
    for measure in thing:
        if not is_tuple(measure, 2, 2) or not isinstance(measure[0], str) or measure[0] not in makers:
            return False
    kinds = kinds_of(thing)
    return all([_are_rows(kinds, makers[kind], rows) for kind, rows in thing])


def kinds_of(measures):
    """The kinds to which the numbers 0, 1, .. of measures belong."""
    return [WHOLE] + [kind for kind, _ in measures]


def belongs(kinds, number, kind):
    """Whether any object is a number of measures of these kinds that belongs to the kind."""
    return is_between(number, 0, len(kinds) - 1) and kinds[number] == kind


def rows_by_maker(core, measures):
    """The row (const, terms) of each measure for each maker of its kind, by the measure's number and the maker."""
    makers = makers_by_kind(core[0])
    return {
        (number, maker): row
        for number, (kind, rows) in enumerate(measures, start=1)
        for (maker, _), row in zip(makers[kind], rows)
    }


def measures_of(core, measures, numbers, words):
    """By number the measures with the numbers, at least, of the value that the words tell.

    The words are read from behind, so that fields are measured ahead of what they stand in.
    """
    fields = {maker: len(kinds) for maker, (_, kinds) in makers_by_name(core[0]).items()}
    wanted = _wanted_rows(core, measures, numbers)
    made = []
    for word in words[::-1]:
        if isinstance(word, str):
            parts = [made.pop() for _ in range(fields[word])]
            made.append({number: _reckoned(row, parts) for number, row in wanted.get(word, [])})
        else:
            made.append({0: word})
    return made[0]


def _wanted_rows(core, measures, numbers):
    """By maker the numbers and rows of all measures that those with the numbers need, themselves among them."""
    reached = {}
    waiting = list(numbers)
    while waiting:
        number = waiting.pop()
        if number not in reached:
            reached[number] = True
            if number > 0:
                waiting.extend([inner for _, terms in measures[number - 1][1] for _, inner, _ in terms])
    found = {}
    for (number, maker), row in rows_by_maker(core, measures).items():
        if number in reached:
            found.setdefault(maker, []).append((number, row))
    return found


def _reckoned(row, parts):
    const, terms = row
    return const + sum([coefficient * parts[field][number] for field, number, coefficient in terms])


def _stays(measure, lot):
    """Whether a measure has no integer below 0, and only terms with measures of the lot."""
    return all([
        const >= 0 and all([number in lot and coefficient >= 0 for _, number, coefficient in terms])
        for const, terms in measure[1]
    ])


def _are_rows(kinds, makers, thing):
    if not is_tuple(thing, len(makers), len(makers)):
        return False
    return all([_is_row(kinds, fields, row) for (_, fields), row in zip(makers, thing)])


def _is_row(kinds, fields, thing):
    if not is_tuple(thing, 2, 2) or not is_factor(thing[0]) or not isinstance(thing[1], tuple):
        return False
    if not all([_is_term(kinds, fields, term) for term in thing[1]]):
        return False
    return is_ascending([term[:2] for term in thing[1]])


def _is_term(kinds, fields, thing):
    if not is_tuple(thing, 3, 3) or not is_between(thing[0], 0, len(fields) - 1):
        return False
    return belongs(kinds, thing[1], fields[thing[0]]) and is_factor(thing[2]) and thing[2] != 0
