"""The duties of a book: what must hold at the rows of a core for the book to be true of all runs."""

from juststeps.books import need_book
from juststeps.cores import need_core
from juststeps.plain import need_prices
from juststeps.telling import Plan, Teller


def duties(core, prices, book):
    """The tuple of the book's duties (name, row, word, goal, hints)."""
    need_priced_book(core, prices, book)
    return tuple([duty.stated for duty in all_duties(core, prices, book)])


def need_priced_book(core, prices, book):
    """Raises the error of the first of the arguments that is not right."""
    need_core(core)
    need_prices(core, prices)
    need_book(core, book)


def all_duties(core, prices, book):
    """The duties of a book, with what belongs to them."""
    plan = Plan(book)
    return [duty for place in range(len(core[1])) for duty in Teller(core, prices, plan, place).duties()]
