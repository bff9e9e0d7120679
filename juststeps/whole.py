"""From text to formula: programs that are built whole, and what could contradict their books."""

from juststeps.books import claimed, keeps_needs, left, need_book, roomed
from juststeps.codejudge import judge_code
from juststeps.compiling import compile_core
from juststeps.cores import place_of
from juststeps.images import need_image
from juststeps.judging import book_holds
from juststeps.lowering import lowered
from juststeps.machine import run_image
from juststeps.plain import need_args, need_limit, run_plain, run_priced
from juststeps.programs import read_program
from juststeps.rewrites import replayed

MOST_STEPS = 10 ** 6


def built(text, log, effort):
    """(core, image, prices): the program of a text, lowered, rewritten by the log and compiled at the effort."""
    core = replayed(lowered(read_program(text)), log)
    image = compile_core(core, effort)
    return core, image, judge_code(core, image)[1]


def contradicted(source, log, image, book, showings, name, args, limit):
    """The first word of what is not as it is promised for a run, or None."""
    core = replayed(source, log)
    need_image(core, image)
    need_book(core, book)
    need_args(core, place_of(core, name), args)
    need_limit(limit)
    verdict = judge_code(core, image)
    if verdict[0] == "refused":
        return "code"
    prices = verdict[1]
    if not book_holds(core, prices, book, showings):
        return "book"
    if not keeps_needs(core, book, name, args):
        return "needs"
    end, value, _ = run_plain(source, name, args, limit)
    if end != "ended":
        return None
    foretold = run_priced(core, prices, name, args, limit)
    if foretold[2] > MOST_STEPS:
        return None
    found = run_image(core, image, name, args, MOST_STEPS)
    return _word_of_run(value, foretold, found) or _word_of_book(core, book, name, args, found)


def _word_of_run(value, foretold, found):
    """What the machine's run has otherwise than the plain run's value, or than the priced run; or None."""
    if found[:2] != ("ended", value):
        return "end"
    for place, word in enumerate(("steps", "words", "top"), start=2):
        if found[place] != foretold[place]:
            return word
    return None


def _word_of_book(core, book, name, args, found):
    """What the book tells otherwise than the machine's run has it; or None."""
    _, value, steps, words, top = found
    for index, claim in enumerate(book[2]):
        if claim[0] == name and (claim[3] == () or value is not None):
            told = claim[1] * steps + claim[2] * words + (left(core, book, index, value) if claim[3] else 0)
            if not _stands(claim[4], told, claimed(core, book, index, args)):
                return "claim"
    room = roomed(core, book, name, args)
    return "room" if room is not None and top > room else None


def _stands(relation, told, number):
    """Whether what is told of a run is at most, at least or just the number."""
    if relation == "just":
        return told == number
    return told <= number if relation == "most" else told >= number
