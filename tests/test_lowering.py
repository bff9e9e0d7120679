"""[12], [64] and the interface's section juststeps/lowering.py."""

import unittest

from juststeps import errors
from juststeps.checks import check
from juststeps.cores import is_core
from juststeps.lowering import lowered
from juststeps.plain import run_plain
from juststeps.programs import is_program, read_program
from tests.helper import BOX, JOIN, JOIN_TEXT, ROW, STRANGE, Maker, Reading, Spent, value_of, words_of

KINDS = "kind Row { Nil ( ) Cons ( whole , Row ) } kind Box { Box ( whole ) } "


class RowsTest(unittest.TestCase):
    def assert_rows(self, head, body, *rows):
        core = lowered(read_program(f"{KINDS}def f {head} {{ {body} }}"))
        self.assertEqual(core[0], (ROW, BOX))
        self.assertEqual(core[1][0][3], rows)
        self.assertTrue(is_core(core))

    def test_the_example(self):
        self.assertEqual(lowered(read_program(JOIN_TEXT)), JOIN)
        self.assertEqual(lowered(program=((), ())), ((), ()))

    def test_heads_stay(self):
        text = KINDS + "def g ( Row b , whole a ) : Box { give Box ( a ) } def f ( ) : whole { give 1 }"
        heads = [function[:3] for function in lowered(read_program(text))[1]]
        self.assertEqual(heads, [("g", ("Row", "whole"), "Box"), ("f", (), "whole")])

    def test_terms(self):
        self.assert_rows("( ) : whole", "give -3", ("num", 0, -3), ("give", 0))
        self.assert_rows("( whole x ) : whole", "give x", ("give", 0))
        self.assert_rows("( whole x , whole y ) : whole", "give y", ("give", 1))
        self.assert_rows("( whole x ) : whole", "give ( x + 1 )", ("num", 1, 1), ("add", 2, 0, 1), ("give", 2))
        self.assert_rows("( whole x ) : whole", "give ( ( 1 - x ) - ( 2 + 3 ) )", ("num", 1, 1), ("sub", 2, 1, 0),
                         ("num", 3, 2), ("num", 4, 3), ("add", 5, 3, 4), ("sub", 6, 2, 5), ("give", 6))
        self.assert_rows("( whole x ) : whole", "give ( 7 * ( -2 * x ) )", ("times", 1, 0, -2), ("times", 2, 1, 7),
                         ("give", 2))
        self.assert_rows("( Row r ) : Row", "give Cons ( ( 1 + 2 ) , Cons ( 3 , r ) )", ("num", 1, 1), ("num", 2, 2),
                         ("add", 3, 1, 2), ("num", 4, 3), ("make", 5, "Cons", (4, 0)), ("make", 6, "Cons", (3, 5)),
                         ("give", 6))
        self.assert_rows("( whole x , Row r ) : whole", "give f ( f ( 1 , r ) , Nil ( ) )", ("num", 2, 1),
                         ("call", 3, "f", (2, 1)), ("make", 4, "Nil", ()), ("call", 5, "f", (3, 4)), ("give", 5))

    def test_let(self):
        self.assert_rows("( whole x ) : whole", "let y = ( x + x ) ; let z = y ; give ( z - x )", ("add", 1, 0, 0),
                         ("sub", 2, 1, 0), ("give", 2))

    def test_if(self):
        self.assert_rows("( whole x ) : whole", "if 1 < ( 2 * x ) { give 3 } else { give x }", ("num", 1, 1),
                         ("times", 2, 0, 2), ("less", 1, 2, 5), ("num", 3, 3), ("give", 3), ("give", 0))
        self.assert_rows("( whole x ) : whole", "if x < 1 { if x < 2 { give 1 } else { give 2 } } else { give 3 }",
                         ("num", 1, 1), ("less", 0, 1, 8), ("num", 2, 2), ("less", 0, 2, 6), ("num", 3, 1), ("give", 3),
                         ("num", 4, 2), ("give", 4), ("num", 5, 3), ("give", 5))

    def test_match(self):
        body = ("match Cons ( 1 , r ) { Nil ( ) { give 2 } Cons ( x , xs ) { match xs { Nil ( ) { give x } "
                "Cons ( y , ys ) { give ( x + y ) } } } }")
        self.assert_rows("( Row r ) : whole", body, ("num", 1, 1), ("make", 2, "Cons", (1, 0)),
                         ("match", 2, (("Nil", (), 3), ("Cons", (4, 5), 5))), ("num", 3, 2), ("give", 3),
                         ("match", 5, (("Nil", (), 6), ("Cons", (6, 7), 7))), ("give", 4), ("add", 8, 4, 6),
                         ("give", 8))
        self.assert_rows("( Box b ) : whole", "match b { Box ( x ) { let y = x ; give y } }",
                         ("match", 0, (("Box", (1,), 1),)), ("give", 1))

    def test_names_of_one_branch_may_come_again_in_another(self):
        self.assert_rows("( whole x ) : whole", "if x < x { let y = 1 ; give y } else { let y = 2 ; give y }",
                         ("less", 0, 0, 3), ("num", 1, 1), ("give", 1), ("num", 2, 2), ("give", 2))

    def test_errors(self):
        for thing in STRANGE:
            with self.assertRaises(errors.BadProgram):
                lowered(thing)
        for text in ("def f ( ) : A { give 1 }", "def f ( ) : whole { give x }", "kind A { B ( C ) }"):
            program = read_program(text)
            with self.assertRaises(errors.NotChecked) as caught:
                lowered(program)
            self.assertEqual(caught.exception.what, check(program))


class SizeTest(unittest.TestCase):
    def test_the_widest_programs_are_cores(self):
        wide = "f ( " + " , ".join("abcdef") + " )"
        head = "def f ( whole a , whole b , whole c , whole d , whole e , whole f ) : whole "
        programs = [head + "{ give " + "( 1 + " * 28 + "1" + " )" * 28 + " }",
                    head + "{ " + "".join(f"let x{at} = {wide} ; " for at in range(10)) + f"give {wide} }}",
                    head + "{ " + "if 1 < 2 { give 1 } else { " * 16 + "give 1" + " }" * 17]
        branches = "A ( v1 , v2 , v3 , v4 , v5 ) { give 1 } " + "".join(
            f"{maker} ( v1 , v2 , v3 , v4 , v5 ) {{ give 1 }} " for maker in "BCDEFGH")
        kind = "kind A { " + "".join(f"{maker} ( {'A , ' * 4}A ) " for maker in "ABCDEFGH") + "} "
        programs.append(kind + "def f ( A a ) : whole { match a { " + branches + "} }")
        for text in programs:
            program = read_program(text)
            self.assertIsNone(check(program))
            self.assertTrue(is_core(lowered(program)))


class ValuesTest(unittest.TestCase):
    """[64]: the core gives what the text says."""

    def test_some_texts(self):
        text = KINDS + ("def sum ( Row r , whole s ) : whole { match r { Nil ( ) { give s } Cons ( x , xs ) { give "
                        "sum ( xs , ( s + x ) ) } } } def most ( whole a , whole b ) : whole { if a < b { give b } "
                        "else { give a } } def diff ( whole a ) : whole { let b = ( 3 * a ) ; give ( b - 1 ) }")
        core = lowered(read_program(text))
        self.assertEqual(run_plain(core, "sum", (("Cons", 3, "Cons", 4, "Nil"), (10,)), 99)[:2], ("ended", (17,)))
        for a, b, wanted in ((1, 2, 2), (2, 1, 2), (2, 2, 2), (-10 ** 30, 10 ** 30, 10 ** 30)):
            self.assertEqual(run_plain(core, "most", ((a,), (b,)), 99)[:2], ("ended", (wanted,)))
        self.assertEqual(run_plain(core, "diff", ((5,),), 99)[:2], ("ended", (14,)))

    def test_made_programs_against_a_direct_reading(self):
        compared = 0
        for seed in range(700):
            maker = Maker(seed)
            program = maker.program()
            if is_program(program):
                compared += self.compare(maker, program)
        self.assertGreater(compared, 300)

    def compare(self, maker, program):
        core = lowered(program)
        self.assertTrue(is_core(core))
        compared = 0
        for name, params, _, _ in program[1]:
            given = tuple(maker.value(kind) for _, kind in params)
            end, value, _ = run_plain(core, name, given, 500)
            try:
                wanted = words_of(Reading(program, 60).call(name, [value_of(words) for words in given]))
            except Spent:
                continue
            if end == "ended":
                self.assertEqual(value, wanted if len(wanted) <= 4000 else None)
                compared += 1
        return compared


if __name__ == "__main__":
    unittest.main()
