"""Finds claims, ranks and rooms of a told shape, exactly if there are any."""

from juststeps.books import is_book
from juststeps.duties import all_duties, need_priced_book
from juststeps.errors import BadName, BadPoint, BadShowings, BadWeights, NotNew
from juststeps.judging import book_holds
from juststeps.lines import keeps, least, solve
from juststeps.measures import never_below
from juststeps.names import is_integer, is_tuple
from juststeps.searching import Search, least_common, times_point
from juststeps.showings import shows
from juststeps.telling import Plan, Teller
from juststeps.templates import Unknowns, claims_filled, filled, need_ins, need_levels, need_template, templated_claims


def claim_lines(core, prices, book, template):
    """The system for claims of the template in which each tied hint is used just once."""
    need_priced_book(core, prices, book)
    need_template(core, book, template)
    search, _ = _claim_search(core, prices, book, template)
    return search.system()


def claims_at(core, prices, book, template, point):
    """(claims, showings) that a point of the system of claim_lines tells."""
    need_priced_book(core, prices, book)
    need_template(core, book, template)
    search, claims = _claim_search(core, prices, book, template)
    return _claims_at(search, claims, _demanded_point(search, point))


def find_claims(core, prices, book, template):
    """("found", claims, showings) of the template, or ("paper", multipliers) that refute the system."""
    need_priced_book(core, prices, book)
    need_template(core, book, template)
    search, claims = _claim_search(core, prices, book, template)
    word, told = solve(search.system())
    return (word, told) if word == "paper" else ("found",) + _claims_at(search, claims, told)


def best_claims(core, prices, book, template, name, weights):
    """What least returns for the system of claim_lines and for what a function's claim says with weights."""
    need_priced_book(core, prices, book)
    need_template(core, book, template)
    shape = _shape_of(core, template, name)
    many = len(shape[1])
    if not is_tuple(weights, many, many) or not all([is_integer(weight) for weight in weights]):
        raise BadWeights("an integer for each entry of the function's ins is wanted")
    search, claims = _claim_search(core, prices, book, template)
    sign = -1 if template[0] == "least" else 1
    ins = [claim.ins for claim in claims if claim.name == name][0]
    terms = [(unknown, sign * weight) for (unknown, _, _), weight in zip(ins, (1,) + weights)]
    return least(search.system(), (0, tuple([term for term in terms if term[1] != 0])))


def with_claims(core, prices, book, showings, claims, more):
    """(book, showings) with claims behind the book's own, and with showings of their duties put in."""
    need_priced_book(core, prices, book)
    if not book_holds(core, prices, book, showings):
        raise BadShowings("showings with which the book holds are wanted")
    if not isinstance(claims, tuple):
        raise NotNew("a tuple of claims is wanted")
    first = len(book[2])
    other = book[:2] + (book[2] + claims,) + book[3:]
    if not is_book(core, other):
        raise NotNew("claims that make a book behind its own are wanted")
    found = all_duties(core, prices, other)
    if not _show_all(never_below(core, book[0]), _new_duties(found, first), more):
        raise NotNew("a showing for each duty of the claims is wanted")
    return other, _merged_showings(found, first, showings, more)


def rank_lines(core, prices, book, levels, ins):
    """The system for ranks with the levels and with forms of ins."""
    need_priced_book(core, prices, book)
    need_levels(core, levels)
    need_ins(core, book, ins)
    search, _ = _rank_search(core, prices, book, levels, ins)
    return search.system()


def ranks_at(core, prices, book, levels, ins, point):
    """(ranks, showings) that a point of the system of rank_lines tells."""
    need_priced_book(core, prices, book)
    need_levels(core, levels)
    need_ins(core, book, ins)
    search, outlines = _rank_search(core, prices, book, levels, ins)
    return _ranks_at(search, levels, outlines, _demanded_point(search, point))


def find_ranks(core, prices, book, levels, ins):
    """("found", ranks, showings), or ("paper", multipliers) that refute the system."""
    need_priced_book(core, prices, book)
    need_levels(core, levels)
    need_ins(core, book, ins)
    search, outlines = _rank_search(core, prices, book, levels, ins)
    word, told = solve(search.system())
    return (word, told) if word == "paper" else ("found",) + _ranks_at(search, levels, outlines, told)


def room_lines(core, prices, book, ins):
    """The system for rooms with forms of ins."""
    need_priced_book(core, prices, book)
    need_ins(core, book, ins)
    search, _ = _room_search(core, prices, book, ins)
    return search.system()


def rooms_at(core, prices, book, ins, point):
    """(rooms, showings) that a point of the system of room_lines tells."""
    need_priced_book(core, prices, book)
    need_ins(core, book, ins)
    search, outlines = _room_search(core, prices, book, ins)
    return _rooms_at(search, outlines, _demanded_point(search, point))


def find_rooms(core, prices, book, ins):
    """("found", rooms, showings), or ("paper", multipliers) that refute the system."""
    need_priced_book(core, prices, book)
    need_ins(core, book, ins)
    search, outlines = _room_search(core, prices, book, ins)
    word, told = solve(search.system())
    return (word, told) if word == "paper" else ("found",) + _rooms_at(search, outlines, told)


def _claim_search(core, prices, book, template):
    """The search for claims of a template, and the claims with unknowns in their outlines."""
    plan = Plan(book)
    first = len(plan.claims)
    unknowns = Unknowns()
    claims = templated_claims(core, template, unknowns)
    plan.claims = plan.claims + claims
    search = Search(core, book, unknowns.many, first)
    for teller in _tellers(core, prices, plan):
        for spot in teller.spots:
            for duty in teller.claim_duties(spot, first):
                # A hint that is exact may be taken the other way round as well.
                search.include(duty, -1 if template[0] == "just" and duty.stated[2] == "most" else 1)
    return search, claims


def _rank_search(core, prices, book, levels, ins):
    """The search for ranks, and the outlines of their forms."""
    plan = Plan(book)
    unknowns = Unknowns()
    outlines = [unknowns.outline(each) for each in ins]
    plan.ranks = list(zip(levels, outlines))
    search = Search(core, book, unknowns.many, len(plan.claims))
    for teller in _tellers(core, prices, plan):
        for duty in teller.entry_duties():
            search.include(duty, 1)
        for spot in teller.spots:
            for duty in teller.rank_duties(spot):
                search.include(duty, 1)
    return search, outlines


def _room_search(core, prices, book, ins):
    """The search for rooms, and the outlines of their forms."""
    plan = Plan(book)
    unknowns = Unknowns()
    outlines = [unknowns.outline(each) for each in ins]
    plan.rooms = outlines
    search = Search(core, book, unknowns.many, len(plan.claims))
    for teller in _tellers(core, prices, plan):
        for spot in teller.spots:
            for duty in teller.room_duties(spot):
                search.include(duty, 1)
    return search, outlines


def _tellers(core, prices, plan):
    return [Teller(core, prices, plan, place) for place in range(len(core[1]))]


def _demanded_point(search, thing):
    """The point; raises BadPoint for any object that is none which keeps the system."""
    if not keeps(search.system(), thing):
        raise BadPoint("a point that keeps the system is wanted")
    return thing


def _claims_at(search, claims, point):
    times = least_common(point)
    numbers = times_point(times, point)
    return claims_filled(claims, times, numbers), search.showings(numbers)


def _ranks_at(search, levels, outlines, point):
    numbers = times_point(least_common(point), point)
    ranks = [(level, filled(outline, numbers)) for level, outline in zip(levels, outlines)]
    return tuple(ranks), search.showings(numbers)


def _rooms_at(search, outlines, point):
    numbers = times_point(least_common(point), point)
    return tuple([filled(outline, numbers) for outline in outlines]), search.showings(numbers)


def _shape_of(core, template, name):
    """The shape of the function with the name; raises BadName for any object that names none with a shape."""
    if isinstance(name, str):
        for function, shape in zip(core[1], template[3]):
            if function[0] == name and shape is not None:
                return shape
    raise BadName("the name of a function with a shape is wanted")


def _new_duties(found, first):
    """The duties that belong to claims from the index first on."""
    return [duty for duty in found if duty.claim is not None and duty.claim >= first]


def _show_all(never, found, thing):
    """Whether any object is a tuple of showings, one for each duty."""
    if not is_tuple(thing, len(found), len(found)):
        return False
    return all([shows(never, duty.stated[3], duty.stated[4], showing) for duty, showing in zip(found, thing)])


def _merged_showings(found, first, old, new):
    """The showings of duties: new ones of new claims' duties, and the old ones without any use of new hints."""
    merged = []
    waiting_old, waiting_new = list(old)[::-1], list(new)[::-1]
    for duty in found:
        if duty.claim is not None and duty.claim >= first:
            merged.append(waiting_new.pop())
        else:
            merged.append(_widened(waiting_old.pop(), duty.stated[4], first))
    return tuple(merged)


def _widened(showing, hints, first):
    """A showing with the multiplier 0 put in at each hint of claims from the index first on."""
    scale, multipliers = showing
    waiting = list(multipliers)[::-1]
    origins = [origin for _, _, origin in hints]
    return scale, tuple([0 if origin is not None and origin[1] >= first else waiting.pop() for origin in origins])
