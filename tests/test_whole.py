"""[2], [3], [62], [64] to [72], whole programs from text to formula, and the interface's section juststeps/whole.py."""

import unittest
from unittest import mock

from juststeps import errors
from juststeps.books import bounds, claimed, keeps_needs, left, roomed
from juststeps.codejudge import judge_code
from juststeps.compiling import compile_core
from juststeps.duties import duties
from juststeps.finding import best_claims, claim_lines, find_claims, find_ranks, find_rooms, rank_lines, with_claims
from juststeps.judging import book_holds, first_unshown
from juststeps.lines import is_least, refutes
from juststeps.lowering import lowered
from juststeps.machine import run_image
from juststeps.measures import measured, never_below
from juststeps.plain import run_plain, run_priced
from juststeps.plaincode import plain_code
from juststeps.programs import read_program
from juststeps.rewrites import improve, replayed, rewritten
from juststeps.showing import is_open, show_book
from juststeps.whole import built, contradicted
from tests.helper import JOIN_TEXT, STRANGE, Reading, all_steps, nested, row_words, value_of, words_of
from tests.test_duties import made_cores

LENGTH = ("Row", ((0, ()), (1, ((1, 1, 1),))))
PAIRS = ("Row", ((0, ()), (0, ((1, 1, 1), (1, 2, 1)))))
SIZE = ("Tree", ((0, ()), (1, ((0, 1, 1), (2, 1, 1)))))
DOWN_TEXT = "def down ( whole n ) : whole { if n < 1 { give 0 } else { give down ( ( n - 1 ) ) } }"
ROWS_TEXT = """
kind Row { Nil ( ) Cons ( whole , Row ) }
def rev ( Row a , Row b ) : Row { match a { Nil ( ) { give b } Cons ( x , xs ) { give rev ( xs , Cons ( x , b ) ) } } }
def twice ( Row a ) : Row { let b = rev ( a , Nil ( ) ) ; match b { Nil ( ) { give a } Cons ( x , xs ) { give rev ( b , a ) } } }
"""
SORT_TEXT = """
kind Row { Nil ( ) Cons ( whole , Row ) }
def put ( whole x , Row r ) : Row { match r { Nil ( ) { give Cons ( x , Nil ( ) ) } Cons ( y , ys ) {
  if x < y { give Cons ( x , Cons ( y , ys ) ) } else { give Cons ( y , put ( x , ys ) ) } } } }
def sort ( Row r ) : Row { match r { Nil ( ) { give Nil ( ) } Cons ( x , xs ) { give put ( x , sort ( xs ) ) } } }
"""
TREE_TEXT = """
kind Tree { Leaf ( ) Node ( Tree , whole , Tree ) }
def total ( Tree t ) : whole { match t { Leaf ( ) { give 0 } Node ( l , n , r ) { give ( total ( l ) + ( n + total ( r ) ) ) } } }
def grow ( whole n , Tree t ) : Tree { if n < 1 { give t } else { give grow ( ( n - 1 ) , Node ( t , n , t ) ) } }
"""
LOGS = {}


def log_of(text):
    if text not in LOGS:
        LOGS[text] = improve(lowered(read_program(text)), 400)[1]
    return LOGS[text]


def logs_of(text):
    """Some logs: none, parts of what improve does, all of it, and some opens behind it."""
    log = log_of(text)
    found = [(), log[:1], log[:len(log) // 2], log]
    core = replayed(lowered(read_program(text)), log)
    for step in all_steps(core, ("open",)):
        try:
            rewritten(core, step)
            found.append(log + (step,))
        except errors.NotLet:
            pass
    return list(dict.fromkeys(found))[:6]


def length_claim(name, more, *params):
    """The value is just so many longer than the params together."""
    return name, 0, 0, ((1, 1),), "just", (more, tuple((param, 1, 1) for param in params))


def tree_words(depth, number=1):
    if depth == 0:
        return ("Leaf",)
    return ("Node",) + tree_words(depth - 1, number + 1) + (number,) + tree_words(depth // 2, number - 2)


class Program:
    """A program with the shape of claims that are true of it, and args of its functions."""

    def __init__(self, text, measures, needs, lengths, ins, levels, args):
        self.text, self.measures, self.needs = text, measures, needs
        self.lengths, self.ins, self.levels, self.args = lengths, ins, levels, args

    def empty_book(self):
        return self.measures, self.needs, (), None, None


ROWS = [row_words([]), row_words([5]), row_words([3, 1, 2]), row_words([9, 8, 7, 6, 5, 4, 3, 2, 1])]
# lengths are claims about values; ins are those of what is found: steps, words, ranks and rooms.
PROGRAMS = (
    Program(JOIN_TEXT, (LENGTH,), ((),), (length_claim("join", 0, 0, 1),), (((0, 1), (1, 1)),), (0,),
            {"join": [(a, b) for a in ROWS for b in ROWS[:2]]}),
    Program(DOWN_TEXT, (), (((0, ((0, 0, 1),)),),), (), (((0, 0),),), (0,), {"down": [((n,),) for n in (0, 1, 2, 9, 40)]}),
    Program(ROWS_TEXT, (LENGTH,), ((), ()), (length_claim("rev", 0, 0, 1),), (((0, 1), (1, 1)), ((0, 1),)), (0, 1),
            {"rev": [(a, b) for a in ROWS for b in ROWS[:2]], "twice": [(a,) for a in ROWS[1:]]}),
    Program(SORT_TEXT, (LENGTH, PAIRS), ((), ()), (length_claim("put", 1, 1), length_claim("sort", 0, 0)),
            (((1, 1),), ((0, 1), (0, 2))), (0, 1),
            {"put": [((n,), a) for n in (0, 4, 20) for a in ROWS], "sort": [(a,) for a in ROWS]}),
    Program(TREE_TEXT, (SIZE,), ((), ((0, ((0, 0, 1),)),)), (), (((0, 1),), ((0, 0), (1, 1))), (0, 0),
            {"total": [(tree_words(depth),) for depth in (0, 1, 3, 5)],
             "grow": [((n,), tree_words(depth)) for n in (0, 1, 3) for depth in (0, 2)] + [((14,), ("Leaf",))]}),
)
JUST = (JOIN_TEXT, DOWN_TEXT, TREE_TEXT)


class WholeCase(unittest.TestCase):
    def assert_raises(self, error, call, *args, **named):
        with self.assertRaises(error) as caught:
            call(*args, **named)
        self.assertIs(type(caught.exception), error)
        return caught.exception

    def found_book(self, program, core, prices, relations=("most", "least")):
        """A book, with showings, of claims about values and of what is found of ranks, rooms, steps and words."""
        book = program.empty_book()
        book = book[:2] + (program.lengths,) + book[3:]
        _, ranks, _ = find_ranks(core, prices, book, program.levels, program.ins)
        _, rooms, _ = find_rooms(core, prices, book, program.ins)
        book = book[:3] + (ranks, rooms)
        word, showings = show_book(core, prices, book)
        self.assertEqual(word, "shown")
        shapes = tuple(((), ins) for ins in program.ins)
        for relation in relations:
            for steps in (1, 0):
                word, claims, more = find_claims(core, prices, book, (relation, steps, 1 - steps, shapes))
                self.assertEqual(word, "found")
                book, showings = with_claims(core, prices, book, showings, claims, more)
                self.assertIs(book_holds(core, prices, book, showings), True)
        return book, showings

    def assert_run(self, core, image, prices, book, name, args):
        """The machine's run is what the priced run and the book tell; returns its steps."""
        foretold = run_priced(core, prices, name, args, 20000)
        found = run_image(core, image, name, args, 10 ** 6)
        self.assertEqual(found, foretold)
        end, value, steps, words, top = found
        self.assertEqual(end, "ended")
        for index, claim in enumerate(book[2]):
            if claim[0] == name and (value is not None or not claim[3]):
                told = claim[1] * steps + claim[2] * words + (left(core, book, index, value) if claim[3] else 0)
                number = claimed(core, book, index, args)
                self.assertTrue({"most": told <= number, "least": told >= number, "just": told == number}[claim[4]], (claim, told, number))
        low, high = bounds(core, book, name, args)
        self.assertLessEqual(low, steps)
        self.assertTrue(high is None or steps <= high)
        room = roomed(core, book, name, args)
        self.assertTrue(room is None or top <= room)
        return steps


class BuiltTest(WholeCase):
    def test_what_is_built(self):
        for program in PROGRAMS:
            log = log_of(program.text)
            for effort in (0, 1, 2):
                core, image, prices = built(text=program.text, log=log, effort=effort)
                self.assertEqual(core, replayed(lowered(read_program(program.text)), log))
                self.assertEqual(image, compile_core(core, effort))
                self.assertEqual(judge_code(core, image), ("let", prices))
        self.assertEqual(built("", (), 2), (((), ()), ((), ()), ()))

    def test_errors_in_their_sequence(self):
        step = ("tail", "down", 3)
        for wrong in STRANGE:
            if repr(wrong) != "''":
                self.assert_raises(errors.BadText, built, wrong, None, None)
        self.assertEqual(self.assert_raises(errors.BadText, built, "kind Row { }", None, None).place, 11)
        error = self.assert_raises(errors.NotChecked, built, "def f ( ) : whole { give x }", None, None)
        self.assertEqual(error.what, ("name", "f"))
        for wrong in tuple(thing for thing in STRANGE if not isinstance(thing, tuple)) + ([step], (step,) * 401):
            self.assert_raises(errors.BadLog, built, DOWN_TEXT, wrong, None)
        self.assertEqual(self.assert_raises(errors.NotLet, built, DOWN_TEXT, (log_of(DOWN_TEXT)[0], step, step, None), None).index, 1)
        for wrong in STRANGE + (3, -1, "1"):
            self.assert_raises(errors.BadEffort, built, DOWN_TEXT, log_of(DOWN_TEXT), wrong)


class FormulaTest(WholeCase):
    def test_exact_claims_are_what_the_machine_takes(self):
        for program in PROGRAMS:
            for log in ((), log_of(program.text)):
                for effort in (0, 1, 2):
                    core, image, prices = built(program.text, log, effort)
                    exact = program.text in JUST
                    book, showings = self.found_book(program, core, prices, ("just",) if exact else ("most", "least"))
                    for name, runs in program.args.items():
                        for args in runs:
                            steps = self.assert_run(core, image, prices, book, name, args)
                            if exact:
                                self.assertEqual(bounds(core, book, name, args), (steps, steps))
                            self.assertIsNone(contradicted(source=lowered(read_program(program.text)), log=log, image=image, book=book,
                                                           showings=showings, name=name, args=args, limit=20000))

    def test_one_number_turned(self):
        turned = 0
        for program in PROGRAMS[:3]:
            core, image, prices = built(program.text, log_of(program.text), 2)
            relations = ("just",) if program.text in JUST else ("most", "least")
            book, showings = self.found_book(program, core, prices, relations)
            for index, claim in enumerate(book[2]):
                if claim[4] == "just":
                    for at in range(-1, len(claim[5][1])):
                        for more in (1, -1):
                            turned += 1
                            self.assert_open(core, prices, book, showings, index, self.turned(claim, at, more))
        self.assertGreater(turned, 20)

    def turned(self, claim, at, more):
        const, terms = claim[5]
        if at == -1:
            return claim[:5] + ((const + more, terms),)
        param, number, times = terms[at]
        changed = terms[:at] + ((param, number, times + more),) + terms[at + 1:]
        return claim[:5] + ((const, tuple(term for term in changed if term[2] != 0)),)

    def assert_open(self, core, prices, book, showings, index, claim):
        book = book[:2] + (book[2][:index] + (claim,) + book[2][index + 1:],) + book[3:]
        self.assertIs(book_holds(core, prices, book, showings), False)
        word, place, point = show_book(core, prices, book)
        self.assertEqual(word, "point")
        duty = duties(core, prices, book)[place]
        self.assertIs(is_open(never_below(core, book[0]), duty[3], duty[4], point), True)
        self.assertLessEqual(first_unshown(core, prices, book, showings), place)

    def test_found_or_refuted(self):
        core, _, prices = built(JOIN_TEXT, (), 2)
        book = ((LENGTH,), ((),), (), None, None)
        for relation, ins, word in (("most", ((0, 1),), "found"), ("most", ((1, 1),), "paper"), ("most", (), "paper"),
                                    ("least", (), "found"), ("just", ((1, 1),), "paper"), ("just", ((0, 1), (1, 1)), "found")):
            template = (relation, 1, 0, (((), ins),))
            told = find_claims(core, prices, book, template)
            self.assertEqual(told[0], word, template)
            if word == "paper":
                self.assertIs(refutes(claim_lines(core, prices, book, template), told[1]), True)

    def test_a_loop_that_does_not_end_has_no_ranks(self):
        core, _, prices = built("def f ( whole n ) : whole { give f ( ( n - 1 ) ) }", (), 2)
        book = ((), ((),), (), None, None)
        told = find_ranks(core, prices, book, (0,), (((0, 0),),))
        self.assertEqual(told[0], "paper")
        self.assertIs(refutes(rank_lines(core, prices, book, (0,), (((0, 0),),)), told[1]), True)
        # With the need that n is 0 or more there are ranks, but the need itself is not kept.
        book = ((), (((0, ((0, 0, 1),)),),), (), None, None)
        word, ranks, _ = find_ranks(core, prices, book, (0,), (((0, 0),),))
        self.assertEqual(word, "found")
        book = book[:3] + (ranks, None)
        word, place, _ = show_book(core, prices, book)
        self.assertEqual((word, duties(core, prices, book)[place][2]), ("point", "need"))

    def test_best_claims_tell_what_the_runs_take(self):
        for text in (JOIN_TEXT, DOWN_TEXT):
            program = [each for each in PROGRAMS if each.text == text][0]
            for effort in (0, 2):
                core, image, prices = built(text, log_of(text), effort)
                name = core[1][0][0]
                for relation in ("most", "least", "just"):
                    template = (relation, 1, 0, (((), program.ins[0]),))
                    for args in program.args[name]:
                        weights = tuple(measured(core, program.measures, number, args[param]) for param, number in program.ins[0])
                        best = best_claims(core, prices, program.empty_book(), template, name, weights)
                        top, bottom = best[1][0]
                        told = [(top, bottom)] + [(times * weight, under) for (times, under), weight in zip(best[1][1:], weights)]
                        self.assertEqual(best[0], "least")
                        steps = run_image(core, image, name, args, 10 ** 6)[2]
                        self.assertEqual(sum(over / under for over, under in told), steps)

    def test_best_claims_of_a_sort_tell_the_worst_run(self):
        program = PROGRAMS[3]
        core, image, prices = built(SORT_TEXT, log_of(SORT_TEXT), 2)
        book, _ = self.found_book(program, core, prices, ())
        template = ("most", 1, 0, (((), ((1, 1),)), ((), ((0, 1), (0, 2)))))
        for many in (1, 4, 9):
            # Put in behind all: the Row that goes down is put at the end each time.
            words = row_words(range(many, 0, -1))
            best = best_claims(core, prices, book, template, "sort", (many, many * (many - 1) // 2))
            self.assertTrue(is_least(claim_lines(core, prices, book, template),
                                     (0, tuple(term for term in ((2, 1), (3, many), (4, many * (many - 1) // 2)) if term[1])), best))
            numbers = [over / under for over, under in best[1][2:5]]
            self.assertEqual(numbers[0] + numbers[1] * many + numbers[2] * many * (many - 1) // 2,
                             run_image(core, image, "sort", (words,), 10 ** 6)[2])


class TruthsTest(WholeCase):
    """[3] and T1 to T9 over the whole program."""

    def test_the_core_gives_what_the_text_says(self):
        for program in PROGRAMS:
            read = read_program(program.text)
            for name, runs in program.args.items():
                for args in runs:
                    if sum(map(len, args)) < 60:
                        value = words_of(Reading(read, 10 ** 5).call(name, [value_of(words) for words in args]))
                        told = run_plain(lowered(read), name, args, 20000)
                        self.assertEqual(told[:2], ("ended", value if len(value) <= 4000 else None))

    def test_every_log_and_effort(self):
        for program in PROGRAMS:
            source = lowered(read_program(program.text))
            for log in logs_of(program.text):
                core = replayed(source, log)
                for effort in (0, 1, 2):
                    image = compile_core(core, effort)
                    prices = judge_code(core, image)[1]
                    for name, runs in program.args.items():
                        for args in runs:
                            value = run_plain(source, name, args, 20000)[1]
                            found = run_image(core, image, name, args, 10 ** 6)
                            self.assertEqual(found[:2], ("ended", value))
                            self.assertEqual(found, run_priced(core, prices, name, args, 20000))

    def test_most_claims_of_plain_prices_bound_every_log_and_effort(self):
        compared = 0
        for program in PROGRAMS:
            source = lowered(read_program(program.text))
            prices = judge_code(source, plain_code(source))[1]
            book, _ = self.found_book(program, source, prices, ("most",))
            for log in logs_of(program.text):
                core = replayed(source, log)
                for effort in (0, 1, 2):
                    image = compile_core(core, effort)
                    for name, runs in program.args.items():
                        for args in runs:
                            compared += 1
                            low, high = bounds(source, book, name, args)
                            self.assertEqual(low, 0)
                            if high is not None:
                                self.assertLessEqual(run_image(core, image, name, args, 10 ** 6)[2], high)
        self.assertGreater(compared, 300)

    def test_rooms_hold_in_runs_that_are_cut(self):
        for program in PROGRAMS[:4]:
            core, image, prices = built(program.text, (), 1)
            book, _ = self.found_book(program, core, prices, ())
            for name, runs in program.args.items():
                for args in runs:
                    steps = run_image(core, image, name, args, 10 ** 6)[2]
                    for limit in range(0, steps + 1, 3):
                        self.assertLessEqual(run_image(core, image, name, args, limit)[4], roomed(core, book, name, args))

    def test_drawn_programs(self):
        """Claims, ranks and rooms that are found of drawn cores are true of all runs with args that keep the needs."""
        counts = {"claims": 0, "ranks": 0, "rooms": 0, "ended": 0}
        for drawer, core in made_cores(2000, 2160, 60):
            effort = drawer.random.choice((0, 1, 2))
            image = compile_core(core, effort)
            prices = judge_code(core, image)[1]
            measures = (LENGTH, ("Tree", ((0, ()), (1, ((0, 2, 1), (2, 2, 1))))))
            needs = tuple(tuple((5, ((param, 0, 1),)) for param, kind in enumerate(function[1]) if kind == "whole")[:2]
                          for function in core[1])
            if drawer.random.random() < 0.5:
                needs = ((),) * len(core[1])
            book = self.drawn_book(drawer, core, prices, (measures, needs, (), None, None), counts)
            word, *told = show_book(core, prices, book)
            if word == "point":
                # Needs are kept by all calls just if they are shown; the claims then say nothing.
                continue
            for name, params, _, _ in core[1] * 3:
                args = tuple(drawer.maker.value(kind) for kind in params)
                if keeps_needs(core, book, name, args):
                    found = run_image(core, image, name, args, 20000)
                    self.assertTrue(book[4] is None or found[4] <= roomed(core, book, name, args))
                    if book[3] is not None:
                        self.assertEqual(run_image(core, image, name, args, 10 ** 6)[0], "ended")
                    if found[0] == "ended":
                        counts["ended"] += 1
                        self.assert_run(core, image, prices, book, name, args)
                        self.assertIsNone(contradicted(core, (), image, book, told[0], name, args, 20000))
        self.assertGreater(min(counts.values()), 20, counts)

    def drawn_book(self, drawer, core, prices, book, counts):
        ins = tuple(tuple(drawer.pairs(book[0], function[1])) for function in core[1])
        for _ in range(3):
            template = (drawer.random.choice(("most", "least", "just")), drawer.random.choice((0, 1)), drawer.random.choice((0, 1)),
                        tuple((tuple(outs), pairs) for outs, pairs in zip(self.outs(drawer, book[0], core), ins)))
            told = find_claims(core, prices, book, template)
            if told[0] == "found":
                counts["claims"] += 1
                book = book[:2] + (book[2] + told[1],) + book[3:]
        ranks = find_ranks(core, prices, book, tuple(range(len(core[1]))), ins)
        if ranks[0] == "found":
            counts["ranks"] += 1
            book = book[:3] + (ranks[1],) + book[4:]
        rooms = find_rooms(core, prices, book, ins)
        if rooms[0] == "found":
            counts["rooms"] += 1
            book = book[:4] + (rooms[1],)
        return book

    def outs(self, drawer, measures, core):
        numbered = ["whole"] + [kind for kind, _ in measures]
        for function in core[1]:
            yield [number for number, kind in enumerate(numbered) if kind == function[2] and drawer.random.random() < 0.5]


class ContradictedTest(WholeCase):
    def setUp(self):
        self.source = lowered(read_program(DOWN_TEXT))
        self.log = log_of(DOWN_TEXT)
        self.core, self.image, self.prices = built(DOWN_TEXT, self.log, 1)
        self.book, self.showings = self.found_book(PROGRAMS[1], self.core, self.prices, ("just",))
        self.right = [self.source, self.log, self.image, self.book, self.showings, "down", ((4,),), 20000]

    def word(self, **changed):
        names = ("source", "log", "image", "book", "showings", "name", "args", "limit")
        return contradicted(**{**dict(zip(names, self.right)), **changed})

    def test_none(self):
        self.assertIsNone(self.word())
        self.assertIsNone(contradicted(*self.right))
        for limit in (0, 1, 10, 20, 21, 22, 23, 24, 25, 26):
            self.assertIsNone(self.word(limit=limit))
        self.assertIsNone(self.word(args=((0,),)))

    def test_the_words(self):
        starts, code = self.image
        for at in range(len(code)):
            other = (starts, code[:at] + (("set", 7, 10 ** 12),) + code[at + 1:])
            told = self.word(image=other)
            self.assertEqual(told, "code" if judge_code(self.core, other)[0] == "refused" else "book")
        other = (starts, (("drop", 1),) + code[1:])
        self.assertEqual(self.word(image=other), "code")
        # The code comes ahead of the book, and the book ahead of the needs.
        self.assertEqual(self.word(image=other, showings=None, args=((-1,),)), "code")
        for wrong in STRANGE + (list(self.showings), self.showings[:-1], nested(80)):
            self.assertEqual(self.word(showings=wrong, args=((-1,),)), "book")
        self.assertEqual(self.word(image=compile_core(self.core, 0)), "book")
        for number in (-1, -50):
            self.assertEqual(self.word(args=((number,),)), "needs")
            self.assertEqual(self.word(args=((number,),), limit=0), "needs")

    def test_values_of_too_many_words(self):
        program = PROGRAMS[4]
        core, image, prices = built(TREE_TEXT, (), 2)
        # A claim about the value of grow: it is at least as great as the tree from which it grew.
        book = program.empty_book()[:2] + ((("grow", 0, 0, ((1, 1),), "least", (0, ((1, 1, 1),))), ("grow", 0, 1, (), "just", (0, ((0, 0, 4),)))),
                                           None, None)
        word, showings = show_book(core, prices, book)
        self.assertEqual(word, "shown")
        for number in (0, 3, 9, 10, 11, 30):
            args = ((number,), ("Leaf",))
            self.assertIsNone(contradicted(lowered(read_program(TREE_TEXT)), (), image, book, showings, "grow", args, 20000))
        self.assertIsNone(run_image(core, image, "grow", args, 10 ** 6)[1])

    def test_runs_of_more_than_a_million_steps(self):
        # Instructions that do nothing of use at the beginning, where each round begins.
        (start,), code = self.image
        self.assertEqual(start, ("down", 0))
        many = 600
        led = {"less": 3, "jump": 1}
        moved = tuple(row[:led[row[0]]] + (row[led[row[0]]] + many,) if row[0] in led else row for row in code)
        image = ((start,), (("set", 7, 0),) * many + moved)
        word, prices = judge_code(self.core, image)
        self.assertEqual(word, "let")
        book, showings = self.found_book(PROGRAMS[1], self.core, prices, ("just",))
        for number in (3, 1000, 3000):
            args = ((number,),)
            steps = run_priced(self.core, prices, "down", args, 20000)[2]
            self.assertEqual(steps > 10 ** 6, number == 3000)
            self.assertIsNone(self.word(image=image, book=book, showings=showings, args=args))
        self.assertEqual(run_image(self.core, image, "down", ((3000,),), 10 ** 6)[0], "spent")

    def test_words_that_never_are_returned(self):
        """What would be told if the machine's run, or the priced one, were not as it is promised."""
        args = ((4,),)
        ended = run_image(self.core, self.image, "down", args, 10 ** 6)
        _, value, steps, words, top = ended
        for found, word in ((ended, None), (("spent", None) + ended[2:], "end"), (("ended", None) + ended[2:], "end"),
                            (("ended", (value[0] + 1,)) + ended[2:], "end"), (("fault", value) + ended[2:], "end"),
                            (ended[:2] + (steps + 1, words + 1, top + 1), "steps"), (ended[:3] + (words + 1, top + 1), "words"),
                            (ended[:4] + (top + 1,), "top")):
            with mock.patch("juststeps.whole.run_image", lambda *given: found):
                self.assertEqual(self.word(args=args), word)
        for claim, word in ((("most", steps), None), (("most", steps - 1), "claim"), (("least", steps), None), (("least", steps + 1), "claim"),
                            (("just", steps), None), (("just", steps + 1), "claim"), (("just", steps - 1), "claim")):
            for more in ((), (("down", 0, 1, ((0, 1),), "just", (words + value[0], ())),)):
                book = self.book[:2] + ((("down", 1, 0, (), claim[0], (claim[1], ())),) + more, None, None)
                with mock.patch("juststeps.whole.book_holds", lambda *given: True):
                    self.assertEqual(self.word(book=book, args=args), word)
        for claim, word in ((("down", 2, 3, ((0, 5),), "just", (2 * steps + 3 * words + 5 * value[0], ())), None),
                            (("down", 2, 3, ((0, 5),), "just", (2 * steps + 3 * words + 5 * value[0] + 1, ())), "claim")):
            with mock.patch("juststeps.whole.book_holds", lambda *given: True):
                self.assertEqual(self.word(book=self.book[:2] + ((claim,), None, None), args=args), word)
        for const, word in ((top, None), (top - 1, "room")):
            with mock.patch("juststeps.whole.book_holds", lambda *given: True):
                self.assertEqual(self.word(book=self.book[:4] + (((const, ()),),), args=args), word)

    def test_a_million_steps_and_one_more(self):
        foretold = run_priced(self.core, self.prices, "down", ((4,),), 20000)
        for steps, word in ((10 ** 6, "steps"), (10 ** 6 + 1, None)):
            with mock.patch("juststeps.whole.run_priced", lambda *given: foretold[:2] + (steps,) + foretold[3:]):
                self.assertEqual(self.word(), word)

    def test_errors_in_their_sequence(self):
        nothing = (None,) * 8
        for wrong in STRANGE:
            self.assert_raises(errors.BadCore, contradicted, wrong, *nothing[1:])
            self.assert_raises(errors.BadImage, contradicted, self.source, self.log, wrong, *nothing[3:]) if repr(wrong) != "((), ())" else None
            self.assert_raises(errors.BadBook, contradicted, *self.right[:3], wrong, *nothing[4:])
            self.assert_raises(errors.BadName, contradicted, *self.right[:4], None, wrong, None, None)
            self.assert_raises(errors.BadArgs, contradicted, *self.right[:4], None, "down", wrong, None)
            if repr(wrong) != "7":
                self.assert_raises(errors.BadLimit, contradicted, *self.right[:4], None, "down", ((-1,),), wrong)
            if not isinstance(wrong, tuple):
                self.assert_raises(errors.BadLog, contradicted, self.source, wrong, *nothing[2:])
        self.assertEqual(self.assert_raises(errors.NotLet, contradicted, self.source, self.log + (None,), *nothing[2:]).index, len(self.log))
        self.assert_raises(errors.Unfit, contradicted, self.source, self.log, ((), ()), *nothing[3:])
        up = compile_core(lowered(read_program(DOWN_TEXT.replace("down", "up"))), 1)
        self.assert_raises(errors.Unfit, contradicted, self.source, self.log, up, *nothing[3:])
        for wrong in (20001, -1, True, "5"):
            self.assert_raises(errors.BadLimit, contradicted, *self.right[:4], None, "down", ((-1,),), wrong)
        # Errors come ahead of all words, even if the code is not let by.
        other = (self.image[0], (("drop", 1),) + self.image[1][1:])
        self.assert_raises(errors.BadLimit, contradicted, self.source, self.log, other, self.book, None, "down", ((4,),), None)

    def test_equal_calls_return_equal_results(self):
        for text in (SORT_TEXT, TREE_TEXT):
            self.assertEqual(built(text, log_of(text), 2), built(text, log_of(text), 2))
        core, _, prices = built(SORT_TEXT, (), 2)
        book = PROGRAMS[3].empty_book()
        template = ("most", 1, 0, tuple(((), ins) for ins in PROGRAMS[3].ins))
        self.assertEqual(find_claims(core, prices, book, template), find_claims(core, prices, book, template))


if __name__ == "__main__":
    unittest.main()
