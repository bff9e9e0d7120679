"""[2], [4] to [7] and the interface's section juststeps/programs.py."""

import unittest

from juststeps import errors
from juststeps.programs import is_program, read_program, write_program
from tests.helper import JOIN_TEXT, ROW, STRANGE, Maker, Other, nested, part_at, places_of, with_part

ONE = ("num", 1)
GIVE = ("give", ONE)


def function(body=GIVE, name="f", params=(), result="whole"):
    return (name, params, result, body)


def of_body(body):
    return ((), (function(body),))


def of_term(term):
    return of_body(("give", term))


def of_kinds(kinds):
    return (kinds, ())


def bodies_of_parts(many):
    """A body with so many bodies and expressions: gives below ifs."""
    if many == 2:
        return GIVE
    return ("if", ONE, ONE, GIVE, bodies_of_parts(many - 5))


def chain(many, last=ONE):
    """An expression that is a chain of so many expressions."""
    for _ in range(many - 1):
        last = ("times", 2, last)
    return last


class NamesTest(unittest.TestCase):
    def test_low_and_high_names(self):
        for name in ("a", "z9", "aB3", "abcdefghij", "kinds", "defs", "x1234567AZ"):
            self.assertIs(is_program(((), (function(name=name),))), True, name)
            self.assertIs(is_program(of_kinds(((name, (("A", ()),)),))), False, name)
        for name in ("A", "Z9", "Ab3", "Abcdefghij", "Whole", "Def"):
            self.assertIs(is_program(of_kinds(((name, (("A", ()),)),))), True, name)
            self.assertIs(is_program(((), (function(name=name),))), False, name)

    def test_no_names(self):
        no_names = ("", "abcdefghijk", "Abcdefghijk", "9a", "a_b", "a b", "a-", " a", "a\n", "_a", "\u00e9", "\u00c9",
                    "a\u0661", "\u0061\u0301")
        reserved = ("def", "else", "give", "if", "kind", "let", "match", "whole")
        for name in no_names + reserved + STRANGE:
            if name == "x":
                continue
            self.assertFalse(is_program(((), (function(name=name),))), name)
            self.assertFalse(is_program(of_kinds(((name, (("A", ()),)),))), name)
            self.assertFalse(is_program(of_kinds((("A", ((name, ()),)),))), name)

    def test_kinds_of_fields_params_and_results(self):
        for kind in ("whole", "Row", "A"):
            self.assertTrue(is_program(of_kinds((("A", (("A", (kind,)),)),))))
            self.assertTrue(is_program(((), (function(params=(("x", kind),), result=kind),))))
        for kind in ("row", "give", "Whole2345678", "") + STRANGE:
            self.assertFalse(is_program(of_kinds((("A", (("A", (kind,)),)),))), kind)
            self.assertFalse(is_program(((), (function(result=kind),))), kind)
            self.assertFalse(is_program(((), (function(params=(("x", kind),)),))), kind)


class IsProgramTest(unittest.TestCase):
    def test_the_least_programs(self):
        self.assertIs(is_program(((), ())), True)
        self.assertIs(is_program(((), (function(),))), True)
        self.assertIs(is_program(read_program(JOIN_TEXT)), True)

    def test_any_object(self):
        for thing in STRANGE + (nested(80), ((), nested(78)), nested(80, ((), ()))):
            self.assertIs(is_program(thing), False)

    def test_counts_of_kinds_makers_and_fields(self):
        maker = ("A", ())
        for many, right in ((8, True), (9, False)):
            self.assertIs(is_program(of_kinds((("A", (maker,)),) * many)), right)
            self.assertIs(is_program(of_kinds((("A", (maker,) * many),))), right)
        self.assertFalse(is_program(of_kinds((("A", ()),))))
        for many, right in ((0, True), (5, True), (6, False)):
            self.assertIs(is_program(of_kinds((("A", (("A", ("whole",) * many),)),))), right)

    def test_counts_of_functions_and_params(self):
        for many, right in ((12, True), (13, False)):
            self.assertIs(is_program(((), (function(),) * many)), right)
        for many, right in ((6, True), (7, False)):
            self.assertIs(is_program(((), (function(params=(("x", "whole"),) * many),))), right)

    def test_counts_of_branches_names_and_args(self):
        for many, right in ((0, False), (1, True), (8, True), (9, False)):
            self.assertIs(is_program(of_body(("match", ONE, (("A", (), GIVE),) * many))), right)
        for many, right in ((0, True), (5, True), (6, False)):
            self.assertIs(is_program(of_body(("match", ONE, (("A", ("x",) * many, GIVE),)))), right)
            self.assertIs(is_program(of_term(("make", "A", (ONE,) * many))), right)
        for many, right in ((0, True), (6, True), (7, False)):
            self.assertIs(is_program(of_term(("call", "f", (ONE,) * many))), right)

    def test_numbers_and_factors(self):
        for number, right in ((10 ** 12, True), (10 ** 12 + 1, False), (-10 ** 12, True), (-10 ** 12 - 1, False)):
            self.assertIs(is_program(of_term(("num", number))), right)
        for number, right in ((10 ** 6, True), (10 ** 6 + 1, False), (-10 ** 6, True), (-10 ** 6 - 1, False)):
            self.assertIs(is_program(of_term(("times", number, ONE))), right)
        for number in (True, False, "1", None, (1,)):
            self.assertFalse(is_program(of_term(("num", number))))
            self.assertFalse(is_program(of_term(("times", number, ONE))))

    def test_signs(self):
        for sign, right in (("+", True), ("-", True), ("*", False), ("", False), ("+-", False), (None, False),
                            (Other(), False)):
            self.assertIs(is_program(of_term(("op", sign, ONE, ONE))), right)

    def test_at_most_a_hundred_parts(self):
        self.assertTrue(is_program(of_body(("let", "x", ONE, bodies_of_parts(97)))))
        self.assertFalse(is_program(of_body(("let", "x", chain(2), bodies_of_parts(97)))))

    def test_what_counts_among_a_hundred(self):
        # A wide branch has five names, a give, a call and six numbers: 13, seven of them 91. The match, the call
        # that it matches, and the give of the last branch with its number are 4 more. The makers do not count.
        wide = ("A", ("x",) * 5, ("give", ("call", "f", (ONE,) * 6)))
        for names, args, right in ((5, 0, True), (5, 1, False), (4, 1, True), (4, 2, False), (0, 5, True)):
            branches = (wide,) * 7 + (("A", ("x",) * names, GIVE),)
            self.assertIs(is_program(of_body(("match", ("call", "f", (ONE,) * args), branches))), right)

    def test_a_function_has_a_hundred_parts_for_itself(self):
        full = function(("let", "x", ONE, bodies_of_parts(97)))
        self.assertTrue(is_program(((), (full,) * 12)))

    def test_chains_of_thirty(self):
        # The give is the first of the chain.
        self.assertTrue(is_program(of_term(chain(29))))
        self.assertFalse(is_program(of_term(chain(30))))
        lets = GIVE
        for _ in range(28):
            lets = ("let", "x", ONE, lets)
        self.assertTrue(is_program(of_body(lets)))
        self.assertFalse(is_program(of_body(("let", "x", ONE, lets))))
        self.assertTrue(is_program(of_body(("let", "x", chain(29), GIVE))))
        self.assertFalse(is_program(of_body(("let", "x", chain(30), GIVE))))
        self.assertTrue(is_program(of_body(("if", ONE, chain(29), GIVE, GIVE))))
        self.assertFalse(is_program(of_body(("if", ONE, chain(30), GIVE, GIVE))))
        self.assertFalse(is_program(of_body(("if", chain(30), ONE, GIVE, GIVE))))
        self.assertTrue(is_program(of_body(("match", chain(29), (("A", (), ("give", chain(28))),)))))
        self.assertFalse(is_program(of_body(("match", chain(30), (("A", (), GIVE),)))))
        self.assertFalse(is_program(of_body(("match", ONE, (("A", (), ("give", chain(29))),)))))

    def test_parts_that_are_shared_are_counted_each_time(self):
        term = ONE
        for _ in range(28):
            term = ("op", "+", term, term)
        self.assertFalse(is_program(of_term(term)))

    def test_each_part_at_each_place_is_looked_at(self):
        program = ((ROW,), (function(
            ("let", "x", ("op", "-", ("times", 2, ("name", "a")), ("call", "f", (ONE,))),
             ("if", ONE, ("name", "x"), GIVE,
              ("match", ("make", "Nil", (ONE,)), (("Nil", (), GIVE), ("Cons", ("y", "z"), GIVE))))),
            params=(("a", "whole"),)),))
        self.assertTrue(is_program(program))
        for place in places_of(program):
            part = part_at(program, place)
            others = [None, [], 10 ** 13, True, "", "no name", ("no body",), {}, Other()]
            if isinstance(part, tuple):
                others += [list(part), part + (None,)]
            for other in others:
                self.assertIs(is_program(with_part(program, place, other)), False, (place, other))

    def test_lists_and_other_words_are_refused(self):
        for body in ([], ["give", ONE], ("Give", ONE), ("num", 1), ("give",), ("give", GIVE), ("let", "x", GIVE, GIVE),
                     ("let", "X", ONE, GIVE), ("let", "x", ONE, ONE), ("if", ONE, ONE, GIVE), ("match", ONE, []),
                     ("match", ONE, (["A", (), GIVE],)), ("match", ONE, (("a", (), GIVE),)),
                     ("match", ONE, (("A", ["x"], GIVE),)), ("match", ONE, (("A", ("X",), GIVE),)),
                     ("match", GIVE, (("A", (), GIVE),)), ("match", ONE, (("A", (), ONE),)),
                     ("match", ONE, (("A", ()),))):
            self.assertIs(is_program(of_body(body)), False, body)
        for term in ([], ["num", 1], ("Num", 1), ("num",), ("num", 1, 1), ("name", "X"), ("name", "if"), ("name",),
                     ("op", "+", ONE), ("op", "+", ONE, ONE, ONE), ("op", "+", ONE, GIVE), ("times", 2, GIVE),
                     ("times", ONE, 2), ("times", 2), ("times", 2, ONE, ONE), ("make", "a", ()), ("make", "A", []), ("make", "A"), ("call", "F", ()),
                     ("call", "f", [ONE]), ("call", "f", (GIVE,)), ("make", "A", (GIVE,)), GIVE):
            self.assertIs(is_program(of_term(term)), False, term)


    def test_tuples_that_are_too_short(self):
        maker, branch, param = ("A", ("whole",)), ("A", ("x",), GIVE), ("x", "whole")
        for program in (
            ((),), (((("A",),)), ()), ((("A", (maker[:1],)),), ()), ((), (function()[:3],)), ((), (function()[:1],)),
            ((), (function(params=(param[:1],)),)), of_body(("match", ONE, (branch[:2],))),
            of_body(("match", ONE, (branch[:1],))), of_body(()), of_term(()),
        ):
            self.assertIs(is_program(program), False, program)
        self.assertTrue(is_program(((("A", (maker,)),), (function(("match", ONE, (branch,)), params=(param,)),))))


class WriteTest(unittest.TestCase):
    def test_texts(self):
        for text in (
            "",
            JOIN_TEXT,
            "kind A { B ( ) } kind B { A ( whole , B , A , whole , B ) }",
            "def f ( ) : whole { give -5 }",
            "def f ( whole a , Row b ) : Row { let x = ( a - -7 ) ; if 0 < ( -3 * x ) { give b } else "
            "{ give f ( x , Cons ( x , b ) ) } }",
            "def f ( ) : whole { give ( 1 + ( 2 + ( 3 * ( 4 + g ( ) ) ) ) ) } def g ( ) : whole { give 0 }",
        ):
            program = read_program(text)
            self.assertEqual(write_program(program), text)
            self.assertEqual(read_program(write_program(program=program)), program)

    def test_the_empty_program(self):
        self.assertEqual(write_program(((), ())), "")
        for text in ("", " ", "\n", " \n \n"):
            self.assertEqual(read_program(text), ((), ()))

    def test_what_is_read_has_the_form_of_5(self):
        self.assertEqual(read_program(JOIN_TEXT), ((ROW,), ((
            "join", (("a", "Row"), ("b", "Row")), "Row",
            ("match", ("name", "a"), (
                ("Nil", (), ("give", ("name", "b"))),
                ("Cons", ("x", "xs"), ("give", ("make", "Cons", (
                    ("name", "x"), ("call", "join", (("name", "xs"), ("name", "b"))))))),
            ))),)))
        text = "def f(whole x):whole{let y=(x- -2);if y<(3*x){give(y+1)}else{give -4}}"
        self.assertEqual(read_program(text), of_params((("x", "whole"),), (
            "let", "y", ("op", "-", ("name", "x"), ("num", -2)),
            ("if", ("name", "y"), ("times", 3, ("name", "x")),
             ("give", ("op", "+", ("name", "y"), ("num", 1))), ("give", ("num", -4))))))

    def test_made_programs_come_back(self):
        for seed in range(60):
            program = Maker(seed).program()
            if is_program(program):
                text = write_program(program)
                self.assertEqual(read_program(text), program)
                self.assertEqual(" ".join(text.split()), text)

    def test_no_program(self):
        for thing in STRANGE:
            with self.assertRaises(errors.BadProgram):
                write_program(thing)

    def test_numbers_at_their_bounds_come_back(self):
        for number in (10 ** 12, -10 ** 12, 0, -1):
            program = of_term(("num", number))
            self.assertEqual(read_program(write_program(program)), program)
        for number in (10 ** 6, -10 ** 6, 0):
            program = of_term(("times", number, ("op", "+", ("num", number), ONE)))
            self.assertEqual(read_program(write_program(program)), program)

    def test_a_chain_of_thirty_comes_back(self):
        program = of_term(chain(29))
        self.assertEqual(read_program(write_program(program)), program)


def of_params(params, body):
    return ((), (function(body, params=params),))


HEAD = "def f ( ) : whole { give "


class BadTextTest(unittest.TestCase):
    def place(self, text):
        with self.assertRaises(errors.BadText) as caught:
            read_program(text)
        return caught.exception.place

    def assert_marked(self, marked):
        """The text has a # just ahead of the word at which reading fails."""
        self.assertEqual(self.place(marked.replace("#", "")), marked.index("#"), marked)

    def assert_term(self, marked):
        self.assert_marked(HEAD + marked + " }")

    def test_no_str(self):
        for thing in STRANGE + ((), 0, b"", nested(80)):
            if not isinstance(thing, str):
                self.assertEqual(self.place(thing), 0)
        self.assertEqual(self.place(["def"]), 0)

    def test_words_between_which_none_can_stand(self):
        for marked in ("#x", "  #x", "\n\n#}", "#give", "#5", "#whole", "#-", "#@", "kind #a", "kind #whole", "kind #5",
                       "kind A #(", "kind A { #}", "kind A { #b", "kind A { B #{", "kind A { B ( #x", "kind A { B ( #,",
                       "kind A { B ( whole #whole", "kind A { B ( whole , #)", "kind A { B ( ) #,", "kind A { B ( ) #(",
                       "kind A { B ( ) } #}", "kind A { B ( ) } #A", "kind A { B ( #5 ) }", "kind A { B ( A #b ) }",
                       "def #F", "def #def", "def f #{", "def f ( #a", "def f ( #,", "def f ( whole #whole",
                       "def f ( whole #A", "def f ( A #,", "def f ( A #)", "def f ( A a #b", "def f ( A a , #)",
                       "def f ( ) #{", "def f ( ) : #a", "def f ( ) : #{", "def f ( ) : A #(", "def f ( ) : A { #}",
                       "def f ( ) : A { #x", "def f ( ) : A { #5", "def f ( ) : A { give 5 #give",
                       "def f ( ) : A { give 5 } #kind", "def f ( ) : A { give 5 } #}", "def f ( ) : A { give 5 #;"):
            self.assert_marked(marked)

    def test_bodies(self):
        for marked in ("let #X", "let #if", "let x #:", "let x = #;", "let x = 5 #}", "let x = 5 #,", "let x = 5 ; #}",
                       "let x = 5 ; #x", "if #<", "if 5 #;", "if 5 < #{", "if 5 < 5 #give", "if 5 < 5 { give 5 } #}",
                       "if 5 < 5 { give 5 } #give", "if 5 < 5 { give 5 } else #if", "if 5 < 5 { give 5 #give 5 }",
                       "match #{", "match 5 #(", "match x { #}", "match x { #a", "match x { A #{", "match x { A ( #B",
                       "match x { A ( #5", "match x { A ( x #x", "match x { A ( x , #)", "match x { A ( ) #give",
                       "match x { A ( ) { #}", "match x { A ( ) { give 5 } #,", "match x { A ( ) { give 5 } } #give",
                       "give #}", "give #give", "give 5 #5", "give #;"):
            self.assert_marked("def f ( ) : A { " + marked)

    def test_terms(self):
        for marked in ("#)", "#,", "#*", "#+", "#whole", "( #)", "( 5 #)", "( 5 #,", "( 5 #5", "( x #)", "( x #*",
                       "( x + #)", "( x + 5 #+", "( x + 5 #,", "( x + 5 #}", "( 5 * #)", "( 5 * 5 #*", "( 5 * 5 #+",
                       "5 #*", "5 #+", "x #*", "A #}", "A #5", "A ( #,", "A ( 5 #5", "A ( 5 , #)", "f ( #,", "f ( 5 #(",
                       "f ( 5 , #)", "f ( 5 , 5 #}", "( ( 5 #) )", "( A ( ) #)", "( f ( ) #*", "( ( 5 * 5 ) #* 5 )"):
            self.assert_term(marked)

    def test_numerals(self):
        for marked in ("#05", "#00", "#007", "#5a", "#0x", "#1000000000001", "#99999999999999999999", "#-0", "#-05",
                       "#-5a", "#-x", "#-", "#- 5", "#--5", "#-1000000000001", "#-(", "( 5 + #-0 )", "( 5 + #- 5 )",
                       "( #-x + 5 )", "( #- 5 * 5 )", "A ( #-00 )", "f ( 1 , #-f )", "( #-0 * 5 )", "( #00 * 5 )"):
            self.assert_term(marked)
        self.assert_term("#" + "9" * 5000)
        self.assert_term("#-" + "9" * 5000)
        for number in (10 ** 12, -10 ** 12, 0, 7, -7):
            self.assertEqual(read_program(HEAD + str(number) + "}"), of_term(("num", number)))

    def test_a_star_behind_a_numeral_beyond_the_bounds_of_times(self):
        for marked in ("( 1000001 #* 5 )", "( -1000001 #* 5 )", "( 1000000000000 #* 5 )", "(1000001#*5)"):
            self.assert_term(marked)
        for number in (10 ** 6, -10 ** 6, 0):
            self.assertEqual(read_program(f"{HEAD}({number}*5)}}"), of_term(("times", number, ("num", 5))))
        self.assertEqual(read_program(HEAD + "(1000001+5)}"), of_term(("op", "+", ("num", 1000001), ("num", 5))))

    def test_a_minus_is_a_sign_where_no_expression_begins(self):
        wanted = of_term(("op", "-", ("num", 3), ("num", 5)))
        for text in ("(3-5)", "( 3 - 5 )", "(3 -5)", "(3- 5)", "(3\n-\n5)"):
            self.assertEqual(read_program(HEAD + text + "}"), wanted)
        wanted = of_term(("op", "-", ("num", -3), ("num", -5)))
        for text in ("(-3--5)", "( -3 - -5 )", "(-3 --5)"):
            self.assertEqual(read_program(HEAD + text + "}"), wanted)
        self.assertEqual(read_program(HEAD + "(-3*-5)}"), of_term(("times", -3, ("num", -5))))

    def test_runs_are_as_long_as_possible(self):
        self.assert_marked("#deff ( ) : whole { give 5 }")
        self.assert_marked("def f ( ) : whole { #give5 }")
        self.assert_marked("def f ( #wholex ) : whole { give x }")
        self.assertEqual(read_program("def f(whole x):whole{give(x+1)}"),
                         of_params((("x", "whole"),), ("give", ("op", "+", ("name", "x"), ONE))))
        self.assertEqual(read_program(" \n" + JOIN_TEXT.replace(" ", " \n ") + "\n "), read_program(JOIN_TEXT))

    def test_names_beyond_their_bounds(self):
        self.assert_marked("kind #Abcdefghijk { B ( ) }")
        self.assert_marked("def #abcdefghijk ( ) : whole { give 5 }")
        self.assert_term("#abcdefghijk")
        self.assert_term("#Abcdefghijk ( )")
        self.assert_term("f ( #a1234567890 )")
        self.assertTrue(read_program("def abcdefghij ( ) : Abcdefghij { give abcdefghij }"))

    def test_signs_that_are_no_words(self):
        for sign in "@!?&|/._'\"[]>~^`$\\":
            self.assert_term("#" + sign)
            self.assert_marked("def f ( ) #" + sign + " : whole { give 5 }")
            self.assert_marked("def f ( ) : whole { give 5 } #" + sign)
        self.assert_marked("def #_f ( ) : whole { give 5 }")
        self.assert_marked("def f#_ ( ) : whole { give 5 }")
        self.assert_marked("def f ( )#\t: whole { give 5 }")
        self.assert_marked("def #\u00e9 ( ) : whole { give 5 }")
        self.assert_marked("def f#\u00e9 ( ) : whole { give 5 }")
        for sign in map(chr, range(33, 127)):
            self.assertEqual(self.place(" " + sign), 1)
        self.assert_term("#\u00b2")
        self.assert_term("#\u0665")

    def test_a_text_that_ends_too_early(self):
        words = JOIN_TEXT.split()
        ends = {0, words.index("def"), len(words)}
        for many in range(len(words)):
            text = " ".join(words[:many])
            for blanks in ("", " ", " \n\n "):
                if many in ends:
                    self.assertEqual(write_program(read_program(text + blanks)), text)
                else:
                    self.assertEqual(self.place(text + blanks), len(text + blanks), text)
        self.assertEqual(self.place(HEAD), len(HEAD))
        self.assertEqual(self.place(HEAD + "-5"), len(HEAD) + 2)
        self.assertEqual(self.place(HEAD + "5"), len(HEAD) + 1)

    def test_a_minus_at_the_very_end_cannot_stand(self):
        self.assertEqual(self.place(HEAD + "-"), len(HEAD))
        self.assertEqual(self.place(HEAD + "( 5 - "), len(HEAD) + 6)

    def test_the_hundredth_open_bracket(self):
        for opening, closing in (("( 5 + ", " )"), ("( 5 * ", " )"), ("A ( ", " )"), ("f ( 5 , ", " )")):
            start = HEAD + opening * 98
            whole_text = start + "5" + closing * 98 + " }"
            # Ninety-nine open ones fit as words; the program that they tell is beyond its bounds.
            self.assertEqual(self.place(whole_text), len(whole_text))
            self.assertEqual(self.place(start + "("), len(start))
            self.assertEqual(self.place(start + opening), len(start) + opening.index("("))
            self.assertEqual(self.place(start), len(start))
        self.assertEqual(self.place(HEAD + "( " * 200), len(HEAD) + 2 * 98)

    def test_the_hundredth_open_brace(self):
        opening = "if 5 < 5 { "
        start = "def f ( ) : whole { " + opening * 98
        self.assertEqual(self.place(start), len(start))
        self.assertEqual(self.place(start + "if 5 < 5 { give 5 }"), len(start) + 9)
        self.assertEqual(self.place(start + "match x { A"), len(start) + 8)
        self.assertEqual(self.place(start + "match f ( "), len(start) + 8)
        self.assertEqual(self.place(start + "give 5 " + "} else { give 5 } " * 98 + "}"),
                         len(start + "give 5 " + "} else { give 5 } " * 98 + "}"))

    def test_brackets_that_are_closed_do_not_count(self):
        text = "kind A { " + "B ( ) " * 150 + "} " + "def f ( ) : A { give B ( ) } " * 150
        self.assertEqual(self.place(text), len(text))

    def test_programs_beyond_a_bound(self):
        maker, kind, give = "A ( ) ", "kind A { A ( ) } ", "def f ( ) : whole { give 5 } "
        for text in (kind * 9, "kind A { " + maker * 9 + "}", "kind A { A ( " + "A , " * 5 + "A ) }", give * 13,
                     "def f ( " + "A a , " * 6 + "A a ) : A { give 5 }", HEAD + "A ( " + "5 , " * 5 + "5 ) }",
                     HEAD + "f ( " + "5 , " * 6 + "5 ) }", HEAD + "( 2 * " * 29 + "5" + " )" * 29 + " }",
                     "def f ( ) : A { match 5 { " + "A ( ) { give 5 } " * 9 + "} }",
                     "def f ( ) : A { match 5 { A ( " + "a , " * 5 + "a ) { give 5 } } }",
                     "def f ( ) : A { " + "let x = 5 ; " * 29 + "give 5 }",
                     "def f ( ) : A { " + "let x = 5 ; " * 5000 + "give 5 }"):
            self.assertEqual(self.place(text + "  "), len(text) + 2, text[:60])
            # The wrong word comes first, whatever bound has been passed ahead of it.
            self.assertEqual(self.place(text + " @"), len(text) + 1, text[:60])
        for text in (kind * 8, "kind A { " + maker * 8 + "}", give * 12, HEAD + "( 2 * " * 28 + "5" + " )" * 28 + " }",
                     "def f ( ) : A { " + "let x = 5 ; " * 28 + "give 5 }"):
            self.assertTrue(is_program(read_program(text)))

    def test_by_name(self):
        self.assertEqual(read_program(text=""), ((), ()))
        self.assertTrue(is_program(thing=((), ())))


if __name__ == "__main__":
    unittest.main()
