"""The kinds of programs and cores: their form, what is wrong with them, and tables of them."""

from juststeps.names import WHOLE, is_high, is_kind, is_tuple

MOST_KINDS = 8
MOST_MAKERS = 8
MOST_FIELDS = 5


def are_kinds(thing):
    """Whether any object has the form of a program's kinds."""
    return is_tuple(thing, 0, MOST_KINDS) and all(_is_entry(entry) for entry in thing)


def _is_entry(entry):
    if not is_tuple(entry, 2, 2) or not is_high(entry[0]):
        return False
    return is_tuple(entry[1], 1, MOST_MAKERS) and all(_is_maker(maker) for maker in entry[1])


def _is_maker(maker):
    if not is_tuple(maker, 2, 2) or not is_high(maker[0]):
        return False
    return is_tuple(maker[1], 0, MOST_FIELDS) and all(is_kind(field) for field in maker[1])


def kinds_fault(kinds):
    """The word of what is wrong first with kinds of the right form, or None."""
    known = [WHOLE] + [name for name, _ in kinds]
    makers_ahead = {}
    for at, (name, makers) in enumerate(kinds):
        if name in known[:at + 1]:
            return "double"
        for maker, fields in makers:
            if maker in makers_ahead:
                return "double"
            makers_ahead[maker] = True
            if not all(field in known for field in fields):
                return "kind"
    return None


def makers_by_kind(kinds):
    """The makers of each kind by the kind's name."""
    return {name: makers for name, makers in kinds}


def makers_by_name(kinds):
    """For each maker's name its kind and its fields."""
    return {maker: (name, fields) for name, makers in kinds for maker, fields in makers}
