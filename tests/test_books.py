"""[2], [40], [41], [49], [63] and the interface's section juststeps/books.py."""

import unittest

from juststeps import errors
from juststeps.books import bounds, claimed, is_book, keeps_needs, left, roomed
from juststeps.lowering import lowered
from juststeps.programs import is_program
from tests.bookish import Drawer, told_of, values_of
from tests.helper import BOX, JOIN, ROW, STRANGE, Other, nested, places_of, row_words, with_part
from tests.test_measures import BAD_MEASURES, LENGTH, PAIRS

BOOK = (
    (LENGTH,),
    ((),),
    (("join", 1, 0, (), "just", (4, ((0, 1, 16),))), ("join", 0, 0, ((1, 1),), "just", (0, ((0, 1, 1), (1, 1, 1))))),
    ((0, (0, ((0, 1, 1),))),),
    ((0, ((0, 1, 2),)),),
)
# Two functions: one of a whole and a Row that gives a whole, and one without params that gives a Row.
TWO = ((ROW, BOX), (("f", ("whole", "Row"), "whole", (("give", 0),)),
                    ("g", (), "Row", (("make", 0, "Nil", ()), ("give", 0)))))
MEASURES = (LENGTH, PAIRS, ("Box", ((1, ((0, 0, 1),)),)))
GREAT = 10 ** 50
CLAIM = ("f", 2, 3, ((0, -5),), "least", (GREAT, ((0, 0, -GREAT), (1, 1, 1), (1, 2, 7))))
FORM = (-3, ((0, 0, 1), (1, 1, -1), (1, 2, GREAT)))
FULL = (MEASURES, ((FORM, (0, ())), ((5, ()),)), (CLAIM, ("g", 0, 0, ((1, 1), (2, -1)), "most", (0, ()))),
        ((100, FORM), (0, (1, ()))), (FORM, (2, ())))

BAD_FORMS = STRANGE + (
    (0,), (0, (), ()), [0, ()], (0, []), (0, None), (True, ()), ("0", ()), (None, ()), (0, ((0, 0, 0),)),
    (0, ((0, 0, True),)), (0, ((0, 0, "1"),)), (0, ((0, 0),)), (0, ((0, 0, 1, 1),)), (0, ([0, 0, 1],)), (0, ((2, 0, 1),)),
    (0, ((-1, 0, 1),)), (0, ((True, 1, 1),)), (0, ((False, 0, 1),)), (0, ((0, False, 1),)), (0, ((0, 1, 1),)),
    (0, ((1, 0, 1),)), (0, ((1, 3, 1),)), (0, ((1, 4, 1),)), (0, ((1, -1, 1),)), (0, ((0, -1, 1),)), (0, ((None, 0, 1),)),
    (0, ((0, None, 1),)), (0, ((1, 1, 1), (0, 0, 1))), (0, ((1, 2, 1), (1, 1, 1))), (0, ((1, 1, 1), (1, 1, 2))),
    (0, ((1, 1, 1), (1, 1, 1))), (0, (nested(50),)), (0, nested(60)),
)
BAD_CLAIMS = STRANGE + (
    CLAIM[:5], CLAIM + ((),), list(CLAIM), (None,) + CLAIM[1:], ("h",) + CLAIM[1:], (b"f",) + CLAIM[1:], ("g",) + CLAIM[1:],
    (("f",),) + CLAIM[1:], (Other(),) + CLAIM[1:],
) + tuple(with_part(CLAIM, (at,), other) for at in (1, 2) for other in (-1, True, None, "1", (1, 1), (1,))) + tuple(
    with_part(CLAIM, (3,), other) for other in (None, [], [(0, 1)], ((0, 0),), ((0, True),), ((0, "1"),), ((0, None),),
                                                ((0,),), ((0, 1, 1),), ([0, 1],), ((1, 1),), ((False, 1),), ((-1, 1),),
                                                ((0, 1), (0, 2)), ((0, 1), (1, 1)), ((None, 1),), (0, 1), 0)
) + tuple(with_part(CLAIM, (4,), other) for other in (None, "", "Most", "exact", b"most", ("most",), True, 0, Other())) + tuple(
    with_part(CLAIM, (5,), other) for other in BAD_FORMS if repr(other) not in ("(0, ())",))


class BookCase(unittest.TestCase):
    def assert_raises(self, error, call, *args, **named):
        with self.assertRaises(error) as caught:
            call(*args, **named)
        self.assertIs(type(caught.exception), error)


class IsBookTest(BookCase):
    def test_books(self):
        self.assertIs(is_book(core=JOIN, thing=BOOK), True)
        self.assertIs(is_book(TWO, FULL), True)
        self.assertIs(is_book(((), ()), ((), (), (), None, None)), True)
        self.assertIs(is_book(((), ()), ((), (), (), (), ())), True)
        self.assertIs(is_book(JOIN, ((), ((),), (), None, None)), True)
        self.assertIs(is_book(TWO, FULL[:3] + (None, None)), True)

    def test_needs(self):
        for needs, right in (
            (((FORM,) * 4, ()), True), (((FORM,) * 5, ()), False), (((), ((0, ()),) * 4), True), (((), ((0, ()),) * 5), False),
            (((), (FORM,)), False), (((),), False), (((), (), ()), False), ([(), ()], False), (((), []), False),
            (((), None), False), (None, False), ((FORM, ()), False),
        ):
            self.assertIs(is_book(TWO, (MEASURES, needs, (), None, None)), right, needs)

    def test_claims(self):
        for claims, right in (
            ((), True), ((CLAIM,) * 30, True), ((CLAIM,) * 31, False), ([CLAIM], False), (CLAIM, False), (None, False),
            (((CLAIM[0], 0, 0, (), "just", (0, ())),), True), (((CLAIM[0], GREAT, GREAT, (), "most", (0, ())),), True),
        ):
            self.assertIs(is_book(TWO, (MEASURES, ((), ()), claims, None, None)), right, claims)

    def test_ranks_and_rooms(self):
        for ranks, right in (
            (((0, FORM), (100, (0, ()))), True), (((101, FORM), (0, (0, ()))), False), (((-1, FORM), (0, (0, ()))), False),
            (((True, FORM), (0, (0, ()))), False), ((None, None), False), (((0, FORM),), False), (((0, FORM), (0, FORM)), False),
            (((0, FORM), (0, (0, ())), (0, (0, ()))), False), ([(0, FORM), (0, (0, ()))], False), (((0, FORM), [0, (0, ())]), False),
            (((0, FORM), (0,)), False), (((0, FORM), (0, (0, ()), 0)), False), ((FORM, (0, ())), False), ((), False),
            (False, False), (0, False),
        ):
            self.assertIs(is_book(TWO, (MEASURES, ((), ()), (), ranks, None)), right, ranks)
        for rooms, right in (
            ((FORM, (0, ())), True), ((FORM,), False), ((FORM, FORM), False), ((FORM, None), False), ([FORM, (0, ())], False),
            ((FORM, (0, ()), (0, ())), False), (((0, FORM), (0, (0, ()))), False), ((), False), (False, False),
        ):
            self.assertIs(is_book(TWO, (MEASURES, ((), ()), (), None, rooms)), right, rooms)

    def test_any_object(self):
        for wrong in STRANGE + (BOOK, list(FULL), FULL[:4], FULL + (None,), nested(80)):
            self.assertIs(is_book(TWO, wrong), False, wrong)
        for wrong in BAD_MEASURES:
            self.assertIs(is_book(TWO, (wrong, ((), ()), (), None, None)), False, wrong)
        for wrong in BAD_FORMS:
            for book in ((MEASURES, ((wrong,), ()), (), None, None), (MEASURES, ((), ()), (), ((0, wrong), (0, (0, ()))), None),
                         (MEASURES, ((), ()), (), None, (wrong, (0, ())))):
                self.assertIs(is_book(TWO, book), False, wrong)
        for wrong in BAD_CLAIMS:
            self.assertIs(is_book(TWO, (MEASURES, ((), ()), (wrong,), None, None)), False, wrong)
            self.assertIs(is_book(TWO, (MEASURES, ((), ()), (CLAIM, wrong), None, None)), False, wrong)

    def test_parts_put_otherwise(self):
        right = 0
        for place in places_of(FULL):
            if place[:1] not in ((), (0,)):
                for other in (True, "x", [], -1, ((),)):
                    free = other == -1 and self.is_free(place)
                    self.assertIs(is_book(TWO, with_part(FULL, place, other)), free, (place, other))
                    right += free
        self.assertEqual(right, 24)

    def is_free(self, place):
        """Whether the const or a coefficient of a form, or a coefficient of out, stands at the place."""
        if place[0] == 2 and place[2:3] == (3,):
            return len(place) == 5 and place[4] == 1
        form = {1: place[3:], 2: place[3:] if place[2:3] == (5,) else None, 3: place[3:] if place[2:3] == (1,) else None,
                4: place[2:]}[place[0]]
        return form is not None and (form == (0,) or (len(form) == 3 and form[0] == 1 and form[2] == 2))

    def test_errors_of_the_core(self):
        for wrong in STRANGE + (((ROW, ROW), ()),):
            self.assert_raises(errors.BadCore, is_book, wrong, BOOK)


class NumbersTest(BookCase):
    def test_the_example(self):
        args = (row_words([7, 8]), row_words([]))
        self.assertEqual(claimed(core=JOIN, book=BOOK, index=0, args=args), 36)
        self.assertEqual(claimed(JOIN, BOOK, 1, args), 2)
        self.assertEqual(roomed(core=JOIN, book=BOOK, name="join", args=args), 4)
        self.assertEqual(left(core=JOIN, book=BOOK, index=1, words=args[0]), 2)
        self.assertEqual(left(JOIN, BOOK, 0, args[0]), 0)
        self.assertIs(keeps_needs(core=JOIN, book=BOOK, name="join", args=args), True)

    def test_numbers_of_two_functions(self):
        args = ((4,), row_words([1, 2, 3]))
        self.assertEqual(claimed(TWO, FULL, 0, args), GREAT - 4 * GREAT + 3 + 21)
        self.assertEqual(claimed(TWO, FULL, 1, ()), 0)
        self.assertEqual(left(TWO, FULL, 0, (-6,)), 30)
        self.assertEqual(left(TWO, FULL, 1, row_words([1] * 1999)), 1999 - 1999 * 1998 // 2)
        self.assertEqual(roomed(TWO, FULL, "f", args), -3 + 4 - 3 + 3 * GREAT)
        self.assertEqual(roomed(TWO, FULL, "g", ()), 2)
        self.assertIsNone(roomed(TWO, FULL[:4] + (None,), "f", args))

    def test_needs_are_to_be_0_or_more(self):
        for form, right in (((0, ()), True), ((-1, ()), False), ((-3, ((0, 0, 1),)), True), ((-3, ((1, 1, 1),)), True),
                            ((-4, ((1, 1, 1),)), False)):
            for needs in ((form,), ((0, ()), form), (form, (5, ()))):
                book = (MEASURES, (needs, ()), (), None, None)
                self.assertIs(keeps_needs(TWO, book, "f", ((3,), row_words([0, 0, 0]))), right, needs)
                self.assertIs(keeps_needs(TWO, book, "g", ()), True)

    def test_drawn_books(self):
        compared = 0
        for seed in range(120):
            drawer = Drawer(seed)
            program = drawer.maker.program()
            if not is_program(program):
                continue
            core = lowered(program)
            book = drawer.book(core)
            self.assertTrue(is_book(core, book))
            for place, (name, params, result, _) in enumerate(core[1]):
                args = tuple(drawer.maker.value(kind) for kind in params)
                values = values_of(args)
                for index, claim in enumerate(book[2]):
                    if claim[0] == name:
                        compared += 1
                        self.assertEqual(claimed(core, book, index, args), told_of(core, book[0], claim[5], values))
                        words = drawer.maker.value(result)
                        out = (0, tuple((0, number, times) for number, times in claim[3]))
                        self.assertEqual(left(core, book, index, words), told_of(core, book[0], out, values_of([words])))
                if book[4] is not None:
                    self.assertEqual(roomed(core, book, name, args), told_of(core, book[0], book[4][place], values))
                needs = [told_of(core, book[0], form, values) for form in book[1][place]]
                self.assertIs(keeps_needs(core, book, name, args), all(need >= 0 for need in needs))
        self.assertGreater(compared, 100)


class BoundsTest(BookCase):
    def bounds_of(self, *claims, measures=(LENGTH,), args=(row_words([1, 2, 3]), row_words([]))):
        return bounds(JOIN, (measures, ((),), claims, None, None), "join", args)

    def test_exact_claims(self):
        self.assertEqual(bounds(core=JOIN, book=BOOK, name="join", args=(row_words([7, 8]), row_words([]))), (36, 36))
        self.assertEqual(self.bounds_of(), (0, None))

    def test_most_and_least(self):
        most = ("join", 3, 0, (), "most", (5, ((0, 1, 1),)))
        least = ("join", 3, 0, (), "least", (5, ((0, 1, 1),)))
        # 8 thirds: rounded down for high, up for low.
        self.assertEqual(self.bounds_of(most), (0, 2))
        self.assertEqual(self.bounds_of(least), (3, None))
        self.assertEqual(self.bounds_of(most, least), (3, 2))
        self.assertEqual(self.bounds_of(most[:4] + ("just",) + most[5:]), (3, 2))
        self.assertEqual(self.bounds_of(("join", 3, 0, (), "just", (6, ((0, 1, 1),)))), (3, 3))
        self.assertEqual(self.bounds_of(most, ("join", 1, 0, (), "most", (1, ())), most), (0, 1))
        self.assertEqual(self.bounds_of(least, ("join", 1, 0, (), "least", (7, ())), least), (7, None))

    def test_numbers_below_0(self):
        for const, high in ((-1, -1), (-3, -1), (-4, -2), (0, 0), (2, 0), (3, 1)):
            self.assertEqual(self.bounds_of(("join", 3, 0, (), "most", (const, ()))), (0, high))
        for const, low in ((-1, 0), (-30, 0), (0, 0), (1, 1), (3, 1), (4, 2)):
            self.assertEqual(self.bounds_of(("join", 3, 0, (), "least", (const, ()))), (low, None))

    def test_claims_that_tell_nothing(self):
        falling = ("Row", ((0, ()), (-1, ((1, 2, 1),))))
        for claim, told in (
            (("join", 0, 0, (), "just", (9, ())), (0, None)),
            (("join", 0, 1, (), "just", (9, ())), (0, None)),
            (("join", 1, 1, (), "just", (9, ())), (0, 9)),
            (("join", 1, 0, ((1, 1),), "just", (9, ())), (0, 9)),
            (("join", 1, 0, ((1, -1),), "just", (9, ())), (0, None)),
            (("join", 1, 0, ((2, 1),), "just", (9, ())), (0, None)),
            (("join", 1, 0, ((1, 1), (2, 1)), "most", (9, ())), (0, None)),
            (("join", 1, 0, ((1, 5),), "least", (9, ())), (0, None)),
            (("join", 1, 2, (), "least", (9, ())), (0, None)),
            (("join", 1, 5, ((1, 5),), "most", (9, ())), (0, 9)),
        ):
            self.assertEqual(self.bounds_of(claim, measures=(LENGTH, falling)), told, claim)

    def test_the_number_0_is_not_known_to_be_0_or_more(self):
        for out, told in (((), (9, 9)), (((0, 1),), (0, None)), (((0, -1),), (0, None))):
            book = (MEASURES, ((), ()), (("f", 1, 0, out, "just", (9, ())), ("g", 1, 0, (), "just", (3, ()))), None, None)
            self.assertEqual(bounds(TWO, book, "f", ((1,), row_words([]))), told)
            self.assertEqual(bounds(TWO, book, "g", ()), (3, 3))

    def test_needs(self):
        book = ((LENGTH,), (((-2, ((0, 1, 1),)),),), BOOK[2], None, None)
        self.assertEqual(bounds(JOIN, book, "join", (row_words([1, 1]), row_words([]))), (36, 36))
        self.assert_raises(errors.BadNeeds, bounds, JOIN, book, "join", (row_words([1]), row_words([])))
        self.assert_raises(errors.BadArgs, bounds, JOIN, book, "join", (row_words([1]),))


class ErrorsTest(BookCase):
    CALLS = ((claimed, 0), (left, 0), (roomed, "f"), (keeps_needs, "f"), (bounds, "f"))

    def test_cores_and_books_come_first(self):
        for call, _ in self.CALLS:
            for wrong in STRANGE:
                self.assert_raises(errors.BadCore, call, wrong, None, None, None)
            for wrong in STRANGE + (BOOK, list(FULL), FULL[:4] + ((FORM,),)):
                self.assert_raises(errors.BadBook, call, TWO, wrong, None, None)

    def test_indexes_and_names(self):
        for wrong in STRANGE + (2, -1, "0", (0,)):
            self.assert_raises(errors.BadIndex, claimed, TWO, FULL, wrong, None)
            self.assert_raises(errors.BadIndex, left, TWO, FULL, wrong, None)
        self.assert_raises(errors.BadIndex, claimed, TWO, FULL[:2] + ((),) + FULL[3:], 0, None)
        for wrong in STRANGE + ("h", "F", ("f",)):
            for call in (roomed, keeps_needs, bounds):
                self.assert_raises(errors.BadName, call, TWO, FULL, wrong, None)

    def test_args(self):
        right = ((1,), row_words([1]))
        for wrong in STRANGE + (right[:1], right + right, list(right), ((1, 2), right[1]), (right[1], right[0]),
                                ((True,), right[1]), ((1,), list(right[1])), ((1,), ("Cons", 1)), ((1,), row_words([1] * 200))):
            for call, key in self.CALLS:
                if call != left:
                    self.assert_raises(errors.BadArgs, call, TWO, FULL, key, wrong)
        # The book that has no rooms tells None only behind the errors.
        self.assert_raises(errors.BadArgs, roomed, TWO, FULL[:4] + (None,), "f", None)
        self.assertEqual(claimed(TWO, FULL, 0, ((0,), row_words([1] * 199))), GREAT + 199 + 7 * 199 * 198 // 2)

    def test_words_of_a_value(self):
        for wrong in STRANGE + (("Cons", 1), [1], ("Nil",), (1, 1), (True,), 1, ((1,),)):
            if repr(wrong) != "(1,)":
                self.assert_raises(errors.BadArgs, left, TWO, FULL, 0, wrong)
        self.assertEqual(left(TWO, FULL, 1, row_words([1] * 1999)), 1999 - 1999 * 999)
        self.assert_raises(errors.BadArgs, left, TWO, FULL, 1, row_words([1] * 2000))


if __name__ == "__main__":
    unittest.main()
