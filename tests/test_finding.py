"""[2], [56] to [61], [71] and the interface's section juststeps/finding.py."""

import time
import unittest
from fractions import Fraction

from juststeps import errors, finding
from juststeps.books import is_book
from juststeps.cores import is_core
from juststeps.duties import duties
from juststeps.finding import (best_claims, claim_lines, claims_at, find_claims, find_ranks, find_rooms, rank_lines, ranks_at,
                               room_lines, rooms_at, with_claims)
from juststeps.judging import book_holds, is_shown
from juststeps.lines import is_least, keeps, refutes
from juststeps.measures import never_below
from juststeps.showing import show_book
from tests.bookish import claims_of_duties, read_claim_lines, read_form_lines
from tests.helper import BOX, JOIN, JOIN_PRICES, ROW, STRANGE, Other, core_of, nested, places_of, with_part
from tests.test_books import BOOK
from tests.test_duties import flat_prices, made_cores
from tests.test_measures import LENGTH, PAIRS

B0 = ((LENGTH,), ((),), (), None, None)
T = ("most", 1, 0, (((), ((0, 1),)),))
S = (2, (((-4, ((0, 1),)), False), ((0, ()), False), ((0, ()), False), ((-16, ((1, 1),)), False)))
BOTH = ((0, 1), (1, 1))
VALUE = BOOK[2][1]
RANK = (((0, (0, ((0, 1, 1),))),), ((1, ()), (1, ())))

# A call's value is given, then handed on: g may be of any claims. Two functions more, of which one has no params.
MANY = (
    (ROW, BOX),
    (
        ("f", ("Row", "whole"), "Row", (("call", 2, "g", (0,)), ("less", 1, 1, 3), ("give", 0), ("go", "g", (2,)))),
        ("g", ("Row",), "Row", (("give", 0),)),
        ("h", (), "whole", (("num", 0, 3), ("give", 0))),
    ),
)
MEASURES = (LENGTH, PAIRS, ("Box", ((1, ((0, 0, 1),)),)))
BOOK_OF_MANY = (MEASURES, (((1, ()),), (), ()), (("g", 1, 0, (), "most", (9, ())), ("g", 0, 0, ((1, 1),), "just", (0, ((0, 1, 1),)))),
                None, None)
SHAPES = (((1, 2), ((0, 1), (0, 2), (1, 0))), None, ((0,), ()))
TEMPLATE = ("just", 1, 2, SHAPES)

BAD_INS = tuple(thing for thing in STRANGE if repr(thing) != "()") + (
    None, [(0, 1)], ((0, 1), (0, 1)), ((0, 2), (0, 1)), ((1, 0), (0, 1)), ((0, 0),), ((0, 3),), ((0, 4),), ((1, 1),), ((2, 1),),
    ((-1, 1),), ((0, -1),), ((0,),), ((0, 1, 1),), ([0, 1],), ((True, 0),), ((0, True),), ((None, 1),), (0, 1), 0, nested(60))
BAD_OUTS = tuple(thing for thing in STRANGE if repr(thing) not in ("()", "(1,)")) + (
    None, [1], (1, 1), (2, 1), (0,), (3,), (4,), (-1,), (True,), ("1",), (None,), 1, nested(60), ((1, 1),))
BAD_TEMPLATES = STRANGE + (
    list(TEMPLATE), TEMPLATE[:3], TEMPLATE + (None,), ("just", 1, 2, (None,) * 3), ("just", 1, 2, SHAPES[:2]), ("just", 1, 2, SHAPES + (None,)),
    ("just", 1, 2, list(SHAPES)), ("just", 1, 2, None), ("just", 1, 2, ()), nested(70),
) + tuple(with_part(TEMPLATE, (0,), other) for other in (None, "", "Just", b"just", True, ("just",), "exact", Other())) + tuple(
    with_part(TEMPLATE, (at,), other) for at in (1, 2) for other in (None, True, -1, 1001, 10 ** 6, "1", (1,), Other())) + tuple(
    with_part(TEMPLATE, (3, 0), other) for other in ((), ((), (), ()), ((),), [(), ()], False, 0, "", Other())) + tuple(
    with_part(TEMPLATE, (3, 0, 0), other) for other in BAD_OUTS) + tuple(
    with_part(TEMPLATE, (3, 0, 1), other) for other in BAD_INS)


def with_book(book, claims=(), ranks=None, rooms=None):
    return book[:2] + (book[2] + tuple(claims), book[3] if ranks is None else ranks, book[4] if rooms is None else rooms)


class FindCase(unittest.TestCase):
    def assert_raises(self, error, call, *args, **named):
        with self.assertRaises(error) as caught:
            call(*args, **named)
        self.assertIs(type(caught.exception), error)

    def new_showings_show(self, core, prices, book, first, showings):
        """Whether showings show the duties of the book's claims from the index first on."""
        found = duties(core, prices, book)
        indexes = claims_of_duties(found, book[2])
        new = [duty for duty, index in zip(found, indexes) if index is not None and index >= first]
        self.assertEqual(len(new), len(showings))
        never = never_below(core, book[0])
        return all(is_shown(never, duty[3], duty[4], showing) for duty, showing in zip(new, showings))

    def form_showings_show(self, core, prices, book, words, showings):
        new = [duty for duty in duties(core, prices, book) if duty[2] in words]
        self.assertEqual(len(new), len(showings))
        never = never_below(core, book[0])
        return all(is_shown(never, duty[3], duty[4], showing) for duty, showing in zip(new, showings))


class ExampleTest(FindCase):
    def test_lines(self):
        self.assertEqual(claim_lines(core=JOIN, prices=JOIN_PRICES, book=B0, template=T), S)
        self.assertEqual(claim_lines(JOIN, JOIN_PRICES, B0, ("most", 1, 0, (((), ()),))),
                         (1, (((-4, ((0, 1),)), False), ((0, ()), False), ((-16, ()), False))))

    def test_claims(self):
        word, claims, showings = find_claims(core=JOIN, prices=JOIN_PRICES, book=B0, template=T)
        self.assertEqual((word, len(claims), len(showings)), ("found", 1, 2))
        self.assertTrue(self.new_showings_show(JOIN, JOIN_PRICES, with_book(B0, claims), 0, showings))
        word, multipliers = find_claims(JOIN, JOIN_PRICES, B0, ("most", 1, 0, (((), ()),)))
        self.assertEqual(word, "paper")
        self.assertIs(refutes(claim_lines(JOIN, JOIN_PRICES, B0, ("most", 1, 0, (((), ()),))), multipliers), True)
        self.assertEqual(claims_at(core=JOIN, prices=JOIN_PRICES, book=B0, template=T, point=((4, 1), (16, 1))),
                         ((("join", 1, 0, (), "most", (4, ((0, 1, 16),))),), ((1, ()), (1, (1,)))))

    def test_best_claims(self):
        best = best_claims(core=JOIN, prices=JOIN_PRICES, book=B0, template=T, name="join", weights=(10,))
        self.assertTrue(is_least(S, (0, ((0, 1), (1, 10))), best))
        self.assertEqual(best[:2], ("least", ((4, 1), (16, 1))))
        self.assertTrue(is_least(S, (0, ((0, 1), (1, 10))), ("least", ((4, 1), (16, 1)), 1, (1, 0, 0, 10))))


class LinesTest(FindCase):
    def test_drawn_templates(self):
        many = words = 0
        for drawer, core in made_cores(900, 1050, 60):
            measures = drawer.measures(core[0], drawer.random.randint(0, 3))
            book, prices = drawer.book(core, measures, drawer.random.randint(0, 3)), drawer.prices(core)
            never = never_below(core, measures)
            for _ in range(2):
                template = drawer.template(core, measures, 3)
                system = claim_lines(core, prices, book, template)
                self.assertEqual(system, read_claim_lines(core, prices, book, template, never))
                many += len(system[1])
                words += any(exact for _, exact in system[1])
            ins = tuple(tuple(pair for pair in drawer.pairs(measures, function[1]) if drawer.random.random() < 0.5)
                        for function in core[1])
            levels = tuple(drawer.random.choice((0, 1, 1)) for _ in core[1])
            self.assertEqual(rank_lines(core, prices, book, levels, ins), read_form_lines(core, prices, book, ins, never, levels))
            self.assertEqual(room_lines(core, prices, book, ins), read_form_lines(core, prices, book, ins, never))
        self.assertGreater(min(many, 100 * words), 3000)

    def test_tied_and_free_hints(self):
        # f calls and goes to g, of which the book has two claims and the template a third one.
        template = ("just", 1, 0, (((), ()), ((), ((0, 1),)), None))
        system = claim_lines(MANY, flat_prices(MANY), BOOK_OF_MANY, template)
        never = never_below(MANY, MEASURES)
        self.assertEqual(system, read_claim_lines(MANY, flat_prices(MANY), BOOK_OF_MANY, template, never))
        # Three unknowns of the template; at the one go need, two claims of the call, less, two of the go, twice. The give is idle.
        self.assertEqual(system[0], 3 + 2 * (1 + 2 + 1 + 2))
        _, claims, showings = find_claims(MANY, flat_prices(MANY), BOOK_OF_MANY, template)
        self.assertTrue(self.new_showings_show(MANY, flat_prices(MANY), with_book(BOOK_OF_MANY, claims), 2, showings))
        self.assertEqual([[showing[1][at] for at in (3, 7)] for showing in showings[:2]], [[-1, -1], [1, 1]])
        for relation in ("most", "least"):
            found = find_claims(MANY, flat_prices(MANY), BOOK_OF_MANY, (relation,) + template[1:])
            self.assertEqual([found[2][0][1][at] for at in (3, 7)], [1, 1])

    def test_an_atom_that_cancels_stands_all_the_same(self):
        # The goal has the steps of the go, and so has its hint; the rest has not.
        core = core_of((("go", "f", (0,)),), ("Row",), "Row")
        self.assertEqual(claim_lines(core, flat_prices(core), (MEASURES, ((),), (), None, None), ("most", 1, 0, (((), ()),))),
                         (1, (((0, ()), False), ((-1, ()), False))))
        # An atom that stands with one unknown alone, and never with all of them 0.
        system = claim_lines(core, flat_prices(core), (MEASURES, ((),), (), None, None), ("most", 0, 0, (((1,), ((0, 1), (0, 2))),)))
        self.assertEqual(system, (4, (((0, ()), False),) * 4))
        system = claim_lines(core, flat_prices(core), ((("Row", ((0, ()), (-1, ()))),), ((),), (), None, None), ("most", 0, 0, (((), ((0, 1),)),)))
        self.assertEqual(system, (2, (((0, ()), True), ((0, ()), False))))

    def test_templates_up_to_thirty_claims(self):
        claim = ("h", 0, 0, (), "most", (0, ()))
        for many, right in ((27, True), (28, True), (29, False), (30, False)):
            book = (MEASURES, ((), (), ()), (claim,) * many, None, None)
            if right:
                self.assertEqual(claim_lines(MANY, flat_prices(MANY), book, TEMPLATE)[0], 10)
            else:
                self.assert_raises(errors.BadTemplate, claim_lines, MANY, flat_prices(MANY), book, TEMPLATE)

    def test_steps_and_words_up_to_a_thousand(self):
        for relation in ("most", "least", "just"):
            for steps, words in ((0, 0), (1000, 0), (0, 1000), (1000, 1000)):
                template = (relation, steps, words, T[3])
                system = claim_lines(JOIN, JOIN_PRICES, B0, template)
                self.assertEqual(system, read_claim_lines(JOIN, JOIN_PRICES, B0, template, (1,)))
                self.assertEqual(find_claims(JOIN, JOIN_PRICES, B0, template)[0], "found")
                best = best_claims(JOIN, JOIN_PRICES, B0, template, "join", (10,))
                sign = -1 if relation == "least" else 1
                self.assertTrue(is_least(system, (0, ((0, sign), (1, 10 * sign))), best))
                # Of join a run has 16 steps and 3 words for each entry, and 4 steps more.
                claim = ("join", steps, words, (), relation, (4 * steps, ((0, 1, 16 * steps + 3 * words),) if steps + words else ()))
                point = ((4 * steps, 1), (16 * steps + 3 * words, 1))
                self.assertEqual(claims_at(JOIN, JOIN_PRICES, B0, template, point)[0], (claim,))
            for steps, words in ((1001, 0), (0, 1001), (1001, 1001), (1000, 1001), (1001, 1000), (10 ** 6, 0), (0, 10 ** 6)):
                template = (relation, steps, words, T[3])
                for call, more in ((claim_lines, ()), (claims_at, (((0, 1), (0, 1)),)), (find_claims, ()),
                                   (best_claims, ("join", (10,))), (best_claims, ("none", None))):
                    self.assert_raises(errors.BadTemplate, call, JOIN, JOIN_PRICES, B0, template, *more)

    def test_claims_of_points_may_have_more_than_a_thousand_steps(self):
        # The bound is that of templates; claims of books have none.
        great = 10 ** 30
        claims, showings = claims_at(JOIN, JOIN_PRICES, B0, ("most", 1000, 1000, T[3]), ((4000 * great + 1, great), (19000, 1)))
        self.assertEqual(claims, (("join", 1000 * great, 1000 * great, (), "most", (4000 * great + 1, ((0, 1, 19000 * great),))),))
        self.assertTrue(self.new_showings_show(JOIN, JOIN_PRICES, with_book(B0, claims), 0, showings))


class ClaimsAtTest(FindCase):
    def test_points_with_great_bottoms(self):
        great = 10 ** 30
        for point, times in ((((4, 1), (33, 2)), 2), (((4 * great + 1, great), (16, 1)), great), (((9, 2), (49, 3)), 6),
                             (((4 * 7 + 1, 7), (16 * great + 1, great)), 7 * great), (((25, 6), (161, 10)), 30)):
            claims, showings = claims_at(JOIN, JOIN_PRICES, B0, T, point)
            numbers = [int(Fraction(*each) * times) for each in point]
            self.assertEqual(claims, (("join", times, 0, (), "most", (numbers[0], ((0, 1, numbers[1]),))),))
            self.assertTrue(self.new_showings_show(JOIN, JOIN_PRICES, with_book(B0, claims), 0, showings))

    def test_multipliers_are_taken_as_often(self):
        # Of the steps of g the book says three times as much, so a third of its hint is used.
        book = (MEASURES, ((), (), ()), (("g", 3, 0, (), "most", (5, ())),), None, None)
        prices = (((1, 0, 0, 0), None, None, None), ((1, 0, 0, 0),), (None, None))
        core = with_part(MANY, (1, 0, 3), (("call", 2, "g", (0,)), ("give", 2)))
        prices = (((1, 0, 0, 0), (0, 0, 0, 0)),) + prices[1:]
        template = ("most", 1, 0, (((), ()), None, None))
        self.assertEqual(claim_lines(core, prices, book, template), (2, (
            ((0, ((1, 1),)), False), ((-1, ((1, 3),)), False), ((-1, ((0, 1), (1, -5))), False))))
        claims, showings = claims_at(core, prices, book, template, ((8, 3), (1, 3)))
        self.assertEqual((claims, showings), ((("f", 3, 0, (), "most", (8, ())),), ((1, (1,)),)))
        claims, showings = claims_at(core, prices, book, template, ((7, 1), (1, 2)))
        self.assertEqual((claims, showings), ((("f", 2, 0, (), "most", (14, ())),), ((1, (1,)),)))
        self.assertTrue(self.new_showings_show(core, prices, with_book(book, claims), 1, showings))

    def test_numbers_that_are_0_are_left_out(self):
        template = ("most", 0, 0, (((1,), BOTH),))
        claims, showings = claims_at(JOIN, JOIN_PRICES, B0, template, ((0, 1), (0, 1), (0, 1), (0, 1)))
        self.assertEqual(claims, (("join", 0, 0, (), "most", (0, ())),))
        claims, _ = claims_at(JOIN, JOIN_PRICES, B0, template, ((0, 1), (1, 2), (1, 2), (1, 2)))
        self.assertEqual(claims, (("join", 0, 0, ((1, 1),), "most", (0, ((0, 1, 1), (1, 1, 1)))),))

    def test_drawn_books(self):
        words = {"found": 0, "paper": 0}
        numbers = 0
        for drawer, core in made_cores(1100, 1330, 50):
            measures = drawer.measures(core[0], 2)
            drawer.most = 3
            book, prices = drawer.book(core, measures, drawer.random.choice((0, 1, 2))), flat_prices(core, (3, 1, 2, 1))
            if drawer.random.random() < 0.6:
                book = book[:2] + ((),) + book[3:]
            relation, *rest = drawer.template(core, measures, 2)
            rest[2] = tuple(((), ()) if shape is None else shape for shape in rest[2])
            template = (drawer.random.choice((relation, "most", "least")),) + tuple(rest)
            system = claim_lines(core, prices, book, template)
            told = find_claims(core, prices, book, template)
            words[told[0]] += 1
            if told[0] == "paper":
                self.assertIs(refutes(system, told[1]), True)
                continue
            other = with_book(book, told[1])
            self.assertTrue(is_book(core, other))
            self.assertTrue(self.new_showings_show(core, prices, other, len(book[2]), told[2]))
            self.assertEqual({showing[0] for showing in told[2]} | {1}, {1})
            numbers += any(claim[3:4] + claim[5:] != ((), (0, ())) for claim in told[1])
        self.assertGreater(min(list(words.values()) + [numbers]), 15, (words, numbers))


class FoundOrRefutedTest(FindCase):
    """[71]: the claims of a template that are shown are those at points of its system."""

    def holds(self, claim):
        return show_book(JOIN, JOIN_PRICES, with_book(B0, (claim,)))[0] == "shown"

    def test_claims_of_steps_that_are_shown(self):
        for relation in ("most", "least", "just"):
            system = claim_lines(JOIN, JOIN_PRICES, B0, (relation, 1, 0, T[3]))
            shown = 0
            for const in range(1, 8):
                for times in range(13, 20):
                    right = self.holds(("join", 1, 0, (), relation, (const, ((0, 1, times),))))
                    self.assertIs(keeps(system, ((const, 1), (times, 1))), right)
                    # Taken twice they are the claims at the half of the numbers.
                    half = tuple((number, 2) if number & 1 else (number // 2, 1) for number in (const + 4, times + 16))
                    twice = self.holds(("join", 2, 0, (), relation, (const + 4, ((0, 1, times + 16),))))
                    self.assertIs(keeps(system, half), twice)
                    shown += right
            self.assertEqual(shown, {"most": 16, "least": 16, "just": 1}[relation])

    def test_claims_that_are_refuted(self):
        self.assertEqual(find_claims(JOIN, JOIN_PRICES, B0, ("most", 1, 0, (((), ()),)))[0], "paper")
        self.assertEqual(find_claims(JOIN, JOIN_PRICES, B0, ("just", 1, 0, (((), ((1, 1),)),)))[0], "paper")
        for const in (-1, 0, 4, 20, 10 ** 9):
            self.assertFalse(self.holds(("join", 1, 0, (), "most", (const, ()))))
            for times in (-1, 1, 16, 10 ** 9):
                self.assertFalse(self.holds(("join", 1, 0, (), "just", (const, ((1, 1, times),)))))

    def test_claims_of_values_that_are_shown(self):
        system = claim_lines(JOIN, JOIN_PRICES, B0, ("just", 0, 0, (((1,), BOTH),)))
        for numbers in ((0, 1, 1, 1), (0, 2, 2, 2), (0, 1, 1, 2), (0, 0, 1, 1), (1, 1, 1, 1), (0, -3, -3, -3), (0, 1, 2, 2), (5, 0, 0, 0)):
            const, one, two, out = numbers
            terms = tuple(term for term in ((0, 1, one), (1, 1, two)) if term[2])
            right = self.holds(("join", 0, 0, ((1, out),) if out else (), "just", (const, terms)))
            self.assertIs(keeps(system, tuple((number, 1) for number in numbers)), right, numbers)
            self.assertIs(right, numbers in ((0, 1, 1, 1), (0, 2, 2, 2), (0, -3, -3, -3)))


class BestTest(FindCase):
    def test_lines_of_each_relation(self):
        for relation, sign in (("most", 1), ("just", 1), ("least", -1)):
            for weights in ((10, 3), (0, 0), (-1, 5), (10 ** 30, 1)):
                template = (relation, 1, 0, (((), BOTH),))
                terms = tuple((at, sign * times) for at, times in enumerate((1,) + weights) if times)
                best = best_claims(JOIN, JOIN_PRICES, B0, template, "join", weights)
                self.assertTrue(is_least(claim_lines(JOIN, JOIN_PRICES, B0, template), (0, terms), best), (relation, weights))
                self.assertFalse(is_least(claim_lines(JOIN, JOIN_PRICES, B0, template), (0, tuple((at, -times) for at, times in terms)), best))
        best = best_claims(JOIN, JOIN_PRICES, B0, ("least", 1, 0, T[3]), "join", (10,))
        self.assertEqual(best[:2], ("least", ((4, 1), (16, 1))))
        self.assertEqual(best_claims(JOIN, JOIN_PRICES, B0, ("most", 1, 0, (((), ()),)), "join", ())[0], "paper")
        # Nothing holds a claim from below that takes no steps and says something of the value alone.
        self.assertEqual(best_claims(JOIN, JOIN_PRICES, B0, ("most", 0, 0, (((1,), BOTH),)), "join", (1, 1))[0], "below")

    def test_functions_with_shapes_behind_others(self):
        prices = flat_prices(MANY)
        template = ("most", 1, 0, (((), ((0, 1), (0, 2))), ((1,), ()), ((), ())))
        system = claim_lines(MANY, prices, BOOK_OF_MANY, template)
        for name, weights, terms in (("f", (4, 0), ((0, 1), (1, 4))), ("g", (), ((3, 1),)), ("h", (), ((5, 1),))):
            best = best_claims(MANY, prices, BOOK_OF_MANY, template, name, weights)
            self.assertTrue(is_least(system, (0, terms), best), name)

    def test_names_and_weights(self):
        prices = flat_prices(MANY)
        for wrong in STRANGE + ("g", "F", "x", ("f",), Other()):
            self.assert_raises(errors.BadName, best_claims, MANY, prices, BOOK_OF_MANY, TEMPLATE, wrong, None)
        for wrong in STRANGE + ((1, 2), (1, 2, 3, 4), [1, 2, 3], (1, 2, True), (1, 2, "3"), (1, 2, None)):
            self.assert_raises(errors.BadWeights, best_claims, MANY, prices, BOOK_OF_MANY, TEMPLATE, "f", wrong)
        self.assert_raises(errors.BadWeights, best_claims, MANY, prices, BOOK_OF_MANY, TEMPLATE, "h", (1,))


class WithClaimsTest(FindCase):
    OLD = ((LENGTH,), ((),), (VALUE,), BOOK[3], BOOK[4])

    def found(self):
        return find_claims(JOIN, JOIN_PRICES, self.OLD, ("just", 1, 0, (((), ((0, 1),)),))[:4])

    def test_a_book_with_more_claims_holds(self):
        _, showings = show_book(JOIN, JOIN_PRICES, self.OLD)
        _, claims, more = self.found()
        self.assertEqual(claims, (("join", 1, 0, (), "just", (4, ((0, 1, 16),))),))
        book, told = with_claims(core=JOIN, prices=JOIN_PRICES, book=self.OLD, showings=showings, claims=claims, more=more)
        self.assertEqual(book, with_book(self.OLD, claims))
        self.assertIs(book_holds(JOIN, JOIN_PRICES, book, told), True)
        # Old duties: the old showings, with 0 at each new hint, that stands behind the old ones at each call.
        found = duties(JOIN, JOIN_PRICES, book)
        old = iter(showings)
        for duty, index, (scale, multipliers) in zip(found, claims_of_duties(found, book[2]), told):
            if index != 1:
                before = next(old)
                self.assertEqual(scale, before[0])
                waiting = iter(before[1])
                self.assertEqual(multipliers, tuple(0 if origin is not None and origin[1] == 1 else next(waiting)
                                                    for _, _, origin in duty[4]))
        self.assertEqual([showing for showing, index in zip(told, claims_of_duties(found, book[2])) if index == 1], list(more))

    def test_no_claims(self):
        _, showings = show_book(JOIN, JOIN_PRICES, BOOK)
        self.assertEqual(with_claims(JOIN, JOIN_PRICES, BOOK, showings, (), ()), (BOOK, showings))

    def test_claims_one_behind_another(self):
        book, showings = (MEASURES, ((), (), ()), (), None, None), ()
        prices = flat_prices(MANY, (3, 1, 2, 2))
        for template in (("just", 0, 0, (None, ((1,), ((0, 1),)), None)), ("most", 1, 0, (None, ((), ()), None)),
                         ("least", 0, 1, (((), ()), ((), ()), ((), ()))), ("most", 1, 0, (((), ((0, 1),)), None, ((), ())))):
            _, claims, more = find_claims(MANY, prices, book, template)
            book, showings = with_claims(MANY, prices, book, showings, claims, more)
            self.assertIs(book_holds(MANY, prices, book, showings), True)
        self.assertEqual(len(book[2]), 7)

    def test_showings_that_do_not_hold(self):
        _, showings = show_book(JOIN, JOIN_PRICES, BOOK)
        for wrong in STRANGE + (showings[:-1], list(showings), showings + showings[:1], (None,) + showings[1:], showings[:-1] + ((1, (5, 5)),)):
            self.assert_raises(errors.BadShowings, with_claims, JOIN, JOIN_PRICES, BOOK, wrong, None, None)
        # A book that does not hold has none.
        wrong = BOOK[:2] + ((("join", 1, 0, (), "just", (5, ((0, 1, 16),))), VALUE),) + BOOK[3:]
        self.assert_raises(errors.BadShowings, with_claims, JOIN, JOIN_PRICES, wrong, showings, (), ())

    def test_claims_and_showings_that_are_not_new(self):
        _, showings = show_book(JOIN, JOIN_PRICES, self.OLD)
        _, claims, more = self.found()
        call = (with_claims, JOIN, JOIN_PRICES, self.OLD, showings)
        for wrong in tuple(thing for thing in STRANGE if repr(thing) != "()") + (
                list(claims), claims[0], (None,), (claims[0][:5],), claims + (("x",) + claims[0][1:],), claims * 30):
            self.assert_raises(errors.NotNew, *call, wrong, more)
        for wrong in STRANGE + (list(more), more[:-1], more + more[:1], more[::-1], (None,) * 4, ((0, ()),) * 4, more[:3] + (None,)):
            self.assert_raises(errors.NotNew, *call, claims, wrong)
        self.assert_raises(errors.NotNew, *call, (), more)
        self.assert_raises(errors.NotNew, *call, claims, ())
        with_claims(JOIN, JOIN_PRICES, self.OLD, showings, claims, more)
        # Thirty claims together are let, thirty-one are not.
        nothing = ("join", 0, 0, (), "most", (0, ()))
        book, told = with_claims(JOIN, JOIN_PRICES, self.OLD, showings, (nothing,) * 29, (((1, ()),) * 29 + ((1, (0,) + (0,) * 29),) * 29))
        self.assertEqual(len(book[2]), 30)
        self.assertIs(book_holds(JOIN, JOIN_PRICES, book, told), True)
        self.assert_raises(errors.NotNew, *call, (nothing,) * 30, ((1, ()),) * 30 + ((1, (0,) + (0,) * 30),) * 30)


class RanksAndRoomsTest(FindCase):
    def test_ranks_of_join(self):
        system = rank_lines(core=JOIN, prices=JOIN_PRICES, book=B0, levels=(7,), ins=(BOTH,))
        # The rank itself: its coefficients at the lengths, and its const; at the call it falls by the one of a, less 1.
        self.assertEqual(system, (3, (((0, ((1, 1),)), False), ((0, ((2, 1),)), False), ((0, ((0, 1),)), False),
                                      ((-1, ((1, 1),)), False))))
        word, ranks, showings = find_ranks(core=JOIN, prices=JOIN_PRICES, book=B0, levels=(7,), ins=(BOTH,))
        self.assertEqual((word, ranks[0][0]), ("found", 7))
        self.assertTrue(self.form_showings_show(JOIN, JOIN_PRICES, with_book(B0, ranks=ranks), ("rank",), showings))
        for point, form in ((((0, 1), (1, 1), (0, 1)), (0, ((0, 1, 1),))), (((1, 2), (3, 2), (0, 1)), (1, ((0, 1, 3),))),
                            (((0, 1), (7, 5), (2, 3)), (0, ((0, 1, 21), (1, 1, 10))))):
            ranks, showings = ranks_at(core=JOIN, prices=JOIN_PRICES, book=B0, levels=(7,), ins=(BOTH,), point=point)
            self.assertEqual((ranks, showings), (((7, form),), ((1, ()), (1, ()))))
            self.assertTrue(self.form_showings_show(JOIN, JOIN_PRICES, with_book(B0, ranks=ranks), ("rank",), showings))
        word, multipliers = find_ranks(JOIN, JOIN_PRICES, B0, (7,), (BOTH[1:],))
        self.assertEqual(word, "paper")
        self.assertIs(refutes(rank_lines(JOIN, JOIN_PRICES, B0, (7,), (BOTH[1:],)), multipliers), True)

    def test_rooms_of_join(self):
        word, rooms, showings = find_rooms(core=JOIN, prices=JOIN_PRICES, book=B0, ins=(BOTH,))
        self.assertEqual(word, "found")
        self.assertTrue(self.form_showings_show(JOIN, JOIN_PRICES, with_book(B0, rooms=rooms), ("top", "held"), showings))
        system = room_lines(core=JOIN, prices=JOIN_PRICES, book=B0, ins=(BOTH,))
        for point, right in ((((0, 1), (2, 1), (0, 1)), True), (((1, 1), (5, 2), (1, 3)), True), (((0, 1), (3, 2), (0, 1)), False)):
            self.assertIs(keeps(system, point), right)
            if right:
                rooms, showings = rooms_at(core=JOIN, prices=JOIN_PRICES, book=B0, ins=(BOTH,), point=point)
                self.assertTrue(self.form_showings_show(JOIN, JOIN_PRICES, with_book(B0, rooms=rooms), ("top", "held"), showings))
        self.assertEqual(rooms, ((6, ((0, 1, 15), (1, 1, 2))),))
        self.assertEqual(find_rooms(JOIN, JOIN_PRICES, B0, ((),))[0], "paper")

    def test_the_books_own_are_left_aside(self):
        other = BOOK[:3] + (((0, (-5, ())),), ((-5, ()),))
        for book in (BOOK, other):
            alone = book[:3] + (None, None)
            self.assertEqual(rank_lines(JOIN, JOIN_PRICES, book, (0,), (BOTH,)), rank_lines(JOIN, JOIN_PRICES, alone, (0,), (BOTH,)))
            self.assertEqual(room_lines(JOIN, JOIN_PRICES, book, (BOTH,)), room_lines(JOIN, JOIN_PRICES, alone, (BOTH,)))

    def test_levels_of_several_functions(self):
        prices, ins = flat_prices(MANY, (1, 1, 3, 2)), (((0, 1),), ((0, 1),), ())
        for levels, word in (((1, 0, 0), "found"), ((0, 0, 0), "found"), ((0, 1, 0), "paper"), ((100, 99, 100), "found")):
            told = find_ranks(MANY, prices, BOOK_OF_MANY, levels, ins)
            self.assertEqual(told[0], word, levels)
            if word == "found":
                self.assertEqual(tuple(level for level, _ in told[1]), levels)
                self.assertTrue(self.form_showings_show(MANY, prices, with_book(BOOK_OF_MANY, ranks=told[1]), ("rank",), told[2]))

    def test_hints_are_all_free(self):
        # The value of the call is handed on; that it is no longer is a claim of the book.
        rows = (("match", 0, (("Nil", (), 1), ("Cons", (1, 2), 2))), ("give", 0), ("call", 3, "g", (2,)), ("go", "f", (3,)))
        core = core_of(rows, ("Row",), "Row", more=(("g", ("Row",), "Row", (("give", 0),)),))
        prices = flat_prices(core)
        claim = ("g", 0, 0, ((1, 2),), "most", (0, ((0, 1, 2),)))
        for claims, word in (((claim,), "found"), ((), "paper")):
            book = ((LENGTH,), ((), ()), claims, None, None)
            told = find_ranks(core, prices, book, (1, 0), (((0, 1),), ()))
            self.assertEqual(told[0], word)
        book = ((LENGTH,), ((), ()), (claim,), None, None)
        system = rank_lines(core, prices, book, (1, 0), (((0, 1),), ()))
        self.assertEqual(system, read_form_lines(core, prices, book, (((0, 1),), ()), (1,), (1, 0)))
        self.assertEqual(system[0], 4)
        ranks, showings = ranks_at(core, prices, book, (1, 0), (((0, 1),), ()), ((0, 1), (1, 1), (0, 1), (1, 2)))
        self.assertEqual((ranks, showings), (((1, (0, ((0, 1, 2),))), (0, (0, ()))), ((1, ()), (1, (1,)), (1, ()))))
        self.assertTrue(self.form_showings_show(core, prices, with_book(book, ranks=ranks), ("rank",), showings))

    def test_drawn_cores(self):
        words = {"found": 0, "paper": 0}
        for drawer, core in made_cores(1400, 1500, 50):
            measures = drawer.measures(core[0], 3)
            drawer.most = 3
            book, prices = drawer.book(core, measures, 1), drawer.prices(core)
            ins = tuple(tuple(drawer.pairs(measures, function[1])) for function in core[1])
            levels = tuple(drawer.random.choice((0, 1)) for _ in core[1])
            for told, system, named in (
                (find_ranks(core, prices, book, levels, ins), rank_lines(core, prices, book, levels, ins), ("rank",)),
                (find_rooms(core, prices, book, ins), room_lines(core, prices, book, ins), ("top", "held")),
            ):
                words[told[0]] += 1
                if told[0] == "paper":
                    self.assertIs(refutes(system, told[1]), True)
                else:
                    changed = with_book(book, **{"ranks" if named == ("rank",) else "rooms": told[1]})
                    self.assertTrue(is_book(core, changed))
                    self.assertTrue(self.form_showings_show(core, prices, changed, named, told[2]))
        self.assertGreater(min(words.values()), 20, words)


def chain_core(calls):
    """f calls g so many times, and gives what the last call gave."""
    rows = tuple(("call", at + 6, "g", (0,)) for at in range(calls)) + (("give", 0),)
    core = ((ROW,), (("f", ("Row",) * 6, "Row", rows), ("g", ("Row",), "Row", (("give", 0),))))
    return core


def wide_core(deep):
    """For each of deep a function that matches its first param so often; then one that gives its first param."""
    functions = []
    for at, many in enumerate(deep):
        rows, last, fresh = [], 0, 6
        for _ in range(many):
            here = len(rows)
            rows += [("match", last, (("Nil", (), here + 1), ("Cons", (fresh, fresh + 1), here + 2))), ("give", 1)]
            last, fresh = fresh + 1, fresh + 2
        functions.append((f"f{at}", ("Row",) * 6, "Row", tuple(rows) + (("give", 1),)))
    return (ROW,), tuple(functions)


class TooGreatTest(FindCase):
    EVERY = (LENGTH,) * 12
    PAIRS = tuple((param, number) for param in range(6) for number in range(1, 13))

    def every_call(self, core, prices, book, template):
        shape = template[3][0]
        yield claim_lines, (core, prices, book, template)
        yield claims_at, (core, prices, book, template, None)
        yield find_claims, (core, prices, book, template)
        yield best_claims, (core, prices, book, template, core[1][0][0], (1,) * len(shape[1]))

    def test_four_thousand_unknowns_and_one_more(self):
        begun = time.monotonic()
        core = chain_core(137)
        self.assertTrue(is_core(core))
        prices = flat_prices(core)
        claims = tuple(("g", 1, 0, (), "most", (at, ())) for at in range(29))
        book = (self.EVERY, (((0, ()),) * 4, ()), claims, None, None)
        # 137 * 29 + 4 multipliers, and 23 numbers of the template.
        for ins, right in ((22, True), (23, False)):
            template = ("most", 1, 0, (((), self.PAIRS[:ins]), None))
            if right:
                system = claim_lines(core, prices, book, template)
                self.assertEqual(system[0], 4000)
                word, claims_found, showings = find_claims(core, prices, book, template)
                self.assertEqual(word, "found")
                self.assertTrue(self.new_showings_show(core, prices, with_book(book, claims_found), 29, showings))
                self.assert_raises(errors.BadPoint, claims_at, core, prices, book, template, ((0, 1),) * 4000)
                continue
            for call, args in self.every_call(core, prices, book, template):
                self.assert_raises(errors.TooGreat, call, *args)
            # Other errors come first, but for that of the point.
            self.assert_raises(errors.BadName, best_claims, core, prices, book, template, "g", None)
            self.assert_raises(errors.BadWeights, best_claims, core, prices, book, template, "f", (1,))
            self.assert_raises(errors.BadTemplate, claims_at, core, prices, book, ("most", 1, 0, (None, None)), None)
        self.assertLess(time.monotonic() - begun, 60)

    def test_twelve_thousand_rows_and_one_more(self):
        begun = time.monotonic()
        core = wide_core((119, 75, 0))
        self.assertTrue(is_core(core))
        prices, book = flat_prices(core), (self.EVERY, ((),) * 3, (), None, None)

        def template(more):
            return "most", 1, 0, (((), self.PAIRS), ((), self.PAIRS), ((), self.PAIRS[:more]))

        # At each give 60 atoms of five params and one row more; at the last one the length of the first param's tail besides.
        many = (119 + 1) * 61 + 1 + (75 + 1) * 61 + 1
        ins = 12000 - many - 1
        system = claim_lines(core, prices, book, template(ins))
        self.assertEqual((system[0], len(system[1])), (2 * 73 + ins + 1, 12000))
        word, claims, showings = find_claims(core, prices, book, template(ins))
        self.assertEqual(word, "found")
        self.assertTrue(self.new_showings_show(core, prices, with_book(book, claims), 0, showings))
        for call, args in self.every_call(core, prices, book, template(ins + 1)):
            self.assert_raises(errors.TooGreat, call, *args)
        self.assertLess(time.monotonic() - begun, 60)

    def test_ranks_and_rooms(self):
        core = wide_core((119, 119))
        ins = (self.PAIRS, self.PAIRS)
        # Rooms have a duty at each row with a price.
        book = (self.EVERY, ((),) * 2, (), None, None)
        for call, more in ((room_lines, ()), (rooms_at, (None,)), (find_rooms, ())):
            self.assert_raises(errors.TooGreat, call, core, flat_prices(core), book, ins, *more)
        core = chain_core(20)
        claims = tuple(("g", 1, 0, (), "most", (at, ())) for at in range(30))
        book = (self.EVERY, ((), ()), claims, None, None)
        for call, more in ((rank_lines, ()), (ranks_at, (None,)), (find_ranks, ())):
            self.assert_raises(errors.TooGreat, call, core, flat_prices(core), book, (0, 0), ((), ()), *more)
            self.assert_raises(errors.BadTemplate, call, core, flat_prices(core), book, (0, 0), ((), None), *more)
        self.assertEqual(rank_lines(core, flat_prices(core), book, (1, 0), ((), ()))[0], 2)

    def test_what_is_much_too_great_is_told_at_once(self):
        begun = time.monotonic()
        core = chain_core(239)
        claims = tuple(("g", 1, 0, ((1, 1),), "just", (at, ((0, 1, 1),))) for at in range(28))
        book = (self.EVERY, ((), ()), claims, None, None)
        for call, args in self.every_call(core, flat_prices(core), book, ("just", 1, 0, (((), self.PAIRS), ((), ())))):
            self.assert_raises(errors.TooGreat, call, *args)
        self.assertLess(time.monotonic() - begun, 10)


class ErrorsTest(FindCase):
    CALLS = {
        "claim_lines": (MANY, flat_prices(MANY), BOOK_OF_MANY, TEMPLATE),
        "claims_at": (MANY, flat_prices(MANY), BOOK_OF_MANY, TEMPLATE, None),
        "find_claims": (MANY, flat_prices(MANY), BOOK_OF_MANY, TEMPLATE),
        "best_claims": (MANY, flat_prices(MANY), BOOK_OF_MANY, TEMPLATE, None, None),
        "with_claims": (MANY, flat_prices(MANY), BOOK_OF_MANY, None, None, None),
        "rank_lines": (MANY, flat_prices(MANY), BOOK_OF_MANY, (0, 0, 0), ((), (), ())),
        "ranks_at": (MANY, flat_prices(MANY), BOOK_OF_MANY, (0, 0, 0), ((), (), ()), None),
        "find_ranks": (MANY, flat_prices(MANY), BOOK_OF_MANY, (0, 0, 0), ((), (), ())),
        "room_lines": (MANY, flat_prices(MANY), BOOK_OF_MANY, ((), (), ())),
        "rooms_at": (MANY, flat_prices(MANY), BOOK_OF_MANY, ((), (), ()), None),
        "find_rooms": (MANY, flat_prices(MANY), BOOK_OF_MANY, ((), (), ())),
    }

    def with_wrong(self, name, at, wrong):
        """The arguments of a call, one of them wrong and None behind it."""
        args = self.CALLS[name]
        return (getattr(finding, name),) + args[:at] + (wrong,) + (None,) * (len(args) - at - 1)

    def test_cores_prices_and_books(self):
        for name in self.CALLS:
            for wrong in STRANGE:
                for at, error in enumerate((errors.BadCore, errors.BadPrices, errors.BadBook)):
                    self.assert_raises(error, *self.with_wrong(name, at, wrong))
            self.assert_raises(errors.BadBook, *self.with_wrong(name, 2, BOOK))
            self.assert_raises(errors.BadPrices, *self.with_wrong(name, 1, JOIN_PRICES))

    def test_templates(self):
        for name in ("claim_lines", "claims_at", "find_claims", "best_claims"):
            for wrong in BAD_TEMPLATES:
                self.assert_raises(errors.BadTemplate, *self.with_wrong(name, 3, wrong))
        for place in places_of(TEMPLATE):
            for other in (True, "x", [], -1, 7):
                changed = with_part(TEMPLATE, place, other)
                if not (other == 7 and place in ((1,), (2,))):
                    self.assert_raises(errors.BadTemplate, *self.with_wrong("claim_lines", 3, changed))

    def test_levels(self):
        for name in ("rank_lines", "ranks_at", "find_ranks"):
            for wrong in STRANGE + ((0, 0), (0,) * 4, [0, 0, 0], (0, 0, 101), (0, 0, -1), (0, 0, True), (0, 0, None), (0, 0, "0"), (Other(),) * 3):
                self.assert_raises(errors.BadLevels, *self.with_wrong(name, 3, wrong))
        self.assertEqual(rank_lines(MANY, flat_prices(MANY), BOOK_OF_MANY, (100, 0, 100), ((), (), ()))[0], 3 + 1)

    def test_ins(self):
        for name, at in (("rank_lines", 4), ("ranks_at", 4), ("find_ranks", 4), ("room_lines", 3), ("rooms_at", 3), ("find_rooms", 3)):
            for wrong in tuple(thing for thing in STRANGE if repr(thing) != "((), (), ())") + (((), ()), ((),) * 4, [(), (), ()], (None, (), ()), ((), None, ()), ((), (), None), ((), (), ((0, 1),))):
                self.assert_raises(errors.BadTemplate, *self.with_wrong(name, at, wrong))
            for wrong in BAD_INS:
                self.assert_raises(errors.BadTemplate, *self.with_wrong(name, at, (wrong, (), ())))

    def test_points(self):
        wrong = STRANGE + (((4, 1),), ((4, 1), (16, 1), (0, 1), (0, 1)), [(4, 1), (16, 1)], ((4, 1), (32, 2)), ((4, 1), (16, 0)),
                           ((True, 1), (16, 1)), (4, 16), ((4, 1), [16, 1]), ((4, 1), None), ((4, 1), (-16, -1)), Other())
        for thing in wrong + (((4, 1), (31, 2)), ((3, 1), (16, 1))):
            self.assert_raises(errors.BadPoint, claims_at, JOIN, JOIN_PRICES, B0, T, thing)
        for thing in wrong + (((0, 1), (1, 2)), ((-1, 1), (1, 1))):
            self.assert_raises(errors.BadPoint, ranks_at, JOIN, JOIN_PRICES, B0, (0,), (((0, 1),),), thing)
        for thing in wrong + (((0, 1), (3, 2)), ((-1, 1), (2, 1))):
            self.assert_raises(errors.BadPoint, rooms_at, JOIN, JOIN_PRICES, B0, (((0, 1),),), thing)


if __name__ == "__main__":
    unittest.main()
