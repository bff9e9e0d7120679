"""The judge of books: holds showings against duties."""

from juststeps.duties import duties, need_priced_book
from juststeps.errors import BadShowings
from juststeps.measures import never_below
from juststeps.names import is_tuple
from juststeps.showings import need_parts, shows


def is_shown(never, goal, hints, thing):
    """Whether any object is a showing that shows the goal."""
    need_parts(never, goal, hints)
    return shows(never, goal, hints, thing)


def book_holds(core, prices, book, thing):
    """Whether any object is a tuple of showings, each of which shows the book's duty at its place."""
    need_priced_book(core, prices, book)
    found = duties(core, prices, book)
    return is_tuple(thing, len(found), len(found)) and _first_unshown(core, book, found, thing) is None


def first_unshown(core, prices, book, showings):
    """The index of the first of a tuple of objects that does not show its duty; None if there is none."""
    need_priced_book(core, prices, book)
    found = duties(core, prices, book)
    if not is_tuple(showings, len(found), len(found)):
        raise BadShowings("a tuple with an entry for each duty is wanted")
    return _first_unshown(core, book, found, showings)


def _first_unshown(core, book, found, showings):
    never = never_below(core, book[0])
    for index, ((_, _, _, goal, hints), showing) in enumerate(zip(found, showings)):
        if not shows(never, goal, hints, showing):
            return index
    return None
