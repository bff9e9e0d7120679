"""[8], [9] and the interface's section juststeps/checks.py."""

import unittest

from juststeps import errors
from juststeps.checks import check, checked
from juststeps.programs import is_program, read_program
from tests.helper import JOIN_TEXT, STRANGE, Maker, nested

ROW_TEXT = "kind Row { Nil ( ) Cons ( whole , Row ) } "
BOX_TEXT = "kind Box { Box ( whole ) } "
# A function that most bodies below may call.
OTHER_TEXT = "def g ( whole a , Row b ) : Row { give b } "


class CheckCase(unittest.TestCase):
    def assert_fault(self, text, fault):
        program = read_program(text)
        self.assertEqual(check(program), fault, text)
        if fault is None:
            self.assertIsNone(checked(program))
            return
        with self.assertRaises(errors.NotChecked) as caught:
            checked(program)
        self.assertEqual(caught.exception.what, fault)

    def assert_body(self, body, word, params="whole x , Row r", result="whole"):
        text = f"{ROW_TEXT}{BOX_TEXT}{OTHER_TEXT}def f ( {params} ) : {result} {{ {body} }}"
        self.assert_fault(text, None if word is None else (word, "f"))


class GoodTest(CheckCase):
    def test_good_programs(self):
        for text in ("", JOIN_TEXT, ROW_TEXT + OTHER_TEXT, "kind A { A ( B ) } kind B { B ( A , whole ) C ( ) }",
                     "kind A { A ( A ) }", "def f ( whole f ) : whole { give f }", "kind X { Y ( ) } kind Y { X ( ) }",
                     "def f ( ) : whole { give g ( ) } def g ( ) : whole { give f ( ) }"):
            self.assert_fault(text, None)

    def test_made_programs(self):
        for seed in range(60):
            program = Maker(seed).program()
            if is_program(program):
                self.assertIsNone(check(program))

    def test_no_program(self):
        for thing in STRANGE + (nested(80),):
            with self.assertRaises(errors.BadProgram):
                check(thing)
            with self.assertRaises(errors.BadProgram):
                checked(thing)

    def test_by_name(self):
        self.assertIsNone(check(program=((), ())))
        self.assertIsNone(checked(program=((), ())))


class KindsTest(CheckCase):
    def test_kinds(self):
        self.assert_fault("kind A { B ( ) } kind C { D ( ) } kind A { E ( ) }", ("double", None))

    def test_makers(self):
        self.assert_fault("kind A { B ( ) B ( ) }", ("double", None))
        self.assert_fault("kind A { B ( ) } kind C { B ( ) }", ("double", None))
        self.assert_fault("kind A { B ( ) } kind C { A ( ) }", None)

    def test_fields(self):
        self.assert_fault("kind A { B ( whole , C ) }", ("kind", None))
        self.assert_fault("kind A { B ( ) C ( B ) }", ("kind", None))
        self.assert_fault("kind A { B ( C ) } kind C { D ( ) }", None)

    def test_the_first_fault_of_kinds(self):
        # In the order of the text: the kind's name, then maker by maker its name and its fields.
        self.assert_fault("kind A { B ( X ) B ( ) }", ("kind", None))
        self.assert_fault("kind A { B ( ) B ( X ) }", ("double", None))
        self.assert_fault("kind A { B ( X ) } kind A { C ( ) }", ("kind", None))
        self.assert_fault("kind A { B ( ) } kind A { C ( X ) }", ("double", None))

    def test_kinds_come_ahead_of_heads_and_bodies(self):
        self.assert_fault("kind A { B ( X ) } def f ( Y a , Y a ) : Z { give y }", ("kind", None))


class HeadsTest(CheckCase):
    def test_names(self):
        self.assert_fault("def f ( ) : whole { give 1 } def g ( ) : whole { give 1 } def f ( ) : whole { give 1 }",
                          ("double", "f"))

    def test_params_and_results(self):
        self.assert_fault("def f ( A x ) : whole { give 1 }", ("kind", "f"))
        self.assert_fault("def f ( whole x ) : A { give 1 }", ("kind", "f"))
        self.assert_fault("def f ( whole x , whole y , whole x ) : whole { give 1 }", ("double", "f"))

    def test_makers_and_functions_are_no_kinds(self):
        self.assert_fault("kind A { B ( ) } def f ( B x ) : whole { give 1 }", ("kind", "f"))
        self.assert_fault("kind A { B ( ) } def f ( ) : B { give B ( ) }", ("kind", "f"))

    def test_the_first_fault_of_heads(self):
        self.assert_fault("def f ( whole x , A x ) : A { give 1 }", ("kind", "f"))
        self.assert_fault("def f ( whole x , whole x , A y ) : whole { give 1 }", ("double", "f"))
        self.assert_fault("def f ( whole x , whole x ) : A { give 1 }", ("double", "f"))
        self.assert_fault("def f ( whole x ) : whole { give 1 } def f ( A x ) : whole { give 1 }", ("double", "f"))
        self.assert_fault("def f ( ) : A { give 1 } def f ( ) : whole { give 1 }", ("kind", "f"))

    def test_heads_come_ahead_of_bodies(self):
        self.assert_fault("def f ( ) : whole { give y } def g ( ) : A { give 1 }", ("kind", "g"))
        self.assert_fault("def f ( ) : whole { give y } def g ( ) : whole { give z }", ("name", "f"))
        self.assert_fault("def f ( ) : whole { give 1 } def g ( ) : whole { give z }", ("name", "g"))


class BodiesTest(CheckCase):
    def test_let(self):
        self.assert_body("let y = x ; give y", None)
        self.assert_body("let y = r ; give y", "fit")
        self.assert_body("let x = 1 ; give x", "double")
        self.assert_body("let y = 1 ; let y = 2 ; give y", "double")
        self.assert_body("let y = y ; give y", "name")
        # The expression first, then the name, then the body.
        self.assert_body("let x = z ; give r", "name")
        self.assert_body("let x = ( 1 + r ) ; give z", "fit")
        self.assert_body("let x = 1 ; give z", "double")

    def test_names_of_lets_hold_only_in_their_body(self):
        self.assert_body("if x < 1 { let y = 1 ; give y } else { let y = r ; give 2 }", None)
        self.assert_body("if x < 1 { let y = 1 ; give y } else { give y }", "name")

    def test_if(self):
        self.assert_body("if x < 1 { give 1 } else { give 2 }", None)
        self.assert_body("if r < 1 { give 1 } else { give 2 }", "fit")
        self.assert_body("if 1 < r { give 1 } else { give 2 }", "fit")
        self.assert_body("if r < z { give 1 } else { give 2 }", "fit")
        self.assert_body("if z < r { give 1 } else { give 2 }", "name")
        self.assert_body("if 1 < r { give z } else { give 2 }", "fit")
        self.assert_body("if x < 1 { give z } else { give r }", "name")
        self.assert_body("if x < 1 { give r } else { give z }", "fit")

    def test_match(self):
        good = "Nil ( ) { give x } Cons ( y , ys ) { give y }"
        self.assert_body("match r { " + good + " }", None)
        self.assert_body("match x { " + good + " }", "fit")
        self.assert_body("match z { " + good + " }", "name")
        self.assert_body("match x { Z ( x , x ) { give z } }", "fit")

    def test_makers(self):
        nil, cons = "Nil ( ) { give x } ", "Cons ( y , ys ) { give y } "
        for branches in (nil, cons, cons + nil, nil + nil, nil + cons + cons, nil + cons + "Box ( z ) { give z }",
                         "Nil ( ) { give x } Pair ( y , ys ) { give y }", "Box ( z ) { give z }"):
            self.assert_body("match r { " + branches + " }", "makers")
        self.assert_body("match r { Cons ( x ) { give z } }", "makers")
        self.assert_body("match Box ( x ) { Box ( z ) { give z } }", None)

    def test_counts_of_branches(self):
        self.assert_body("match r { Nil ( y ) { give x } Cons ( y , ys ) { give y } }", "count")
        self.assert_body("match r { Nil ( ) { give x } Cons ( y ) { give y } }", "count")
        self.assert_body("match r { Nil ( ) { give x } Cons ( y , z , ys ) { give y } }", "count")
        # Branch by branch: the count, the names from the left, the body.
        self.assert_body("match r { Nil ( ) { give z } Cons ( y ) { give y } }", "name")
        self.assert_body("match r { Nil ( x ) { give z } Cons ( y , ys ) { give y } }", "count")
        self.assert_body("match r { Nil ( ) { give x } Cons ( x ) { give y } }", "count")

    def test_names_of_branches(self):
        for names in ("x , ys", "y , r", "y , y"):
            self.assert_body("match r { Nil ( ) { give x } Cons ( " + names + " ) { give z } }", "double")
        self.assert_body("match r { Nil ( ) { let y = 1 ; give y } Cons ( y , ys ) { give y } }", None)
        self.assert_body("match r { Nil ( ) { give y } Cons ( y , ys ) { give y } }", "name")
        self.assert_body("match r { Nil ( ) { give 1 } Cons ( y , ys ) { let ys = 1 ; give y } }", "double")
        self.assert_body("match r { Nil ( ) { give 1 } Cons ( y , ys ) { give ys } }", "fit")

    def test_give(self):
        self.assert_body("give r", "fit")
        self.assert_body("give r", None, result="Row")
        self.assert_body("give Box ( x )", "fit", result="Row")
        self.assert_body("give z", "name")


class TermsTest(CheckCase):
    def test_names_and_numbers(self):
        self.assert_body("give 1", None)
        self.assert_body("give x", None)
        self.assert_body("give f", "name")
        self.assert_body("give 1", "fit", result="Row")

    def test_op(self):
        self.assert_body("give ( x + 1 )", None)
        self.assert_body("give ( r + z )", "fit")
        self.assert_body("give ( z + r )", "name")
        self.assert_body("give ( x - r )", "fit")
        self.assert_body("give ( x - z )", "name")
        self.assert_body("give ( x - 1 )", "fit", result="Row")

    def test_times(self):
        self.assert_body("give ( 2 * x )", None)
        self.assert_body("give ( 2 * r )", "fit")
        self.assert_body("give ( 2 * z )", "name")
        self.assert_body("give ( 2 * x )", "fit", result="Row")

    def test_make(self):
        self.assert_body("give Cons ( x , r )", None, result="Row")
        self.assert_body("give Cons ( x , r )", "fit")
        self.assert_body("give Row ( x , r )", "name", result="Row")
        self.assert_body("give Pair ( z )", "name")
        self.assert_body("give Cons ( z )", "count", result="Row")
        self.assert_body("give Cons ( x , r , z )", "count", result="Row")
        self.assert_body("give Nil ( x )", "count", result="Row")
        self.assert_body("give Cons ( r , z )", "fit", result="Row")
        self.assert_body("give Cons ( z , x )", "name", result="Row")
        self.assert_body("give Cons ( x , x )", "fit", result="Row")
        self.assert_body("give Cons ( x , Box ( x ) )", "fit", result="Row")
        self.assert_body("give Cons ( x , Cons ( z ) )", "count", result="Row")

    def test_call(self):
        self.assert_body("give g ( x , r )", None, result="Row")
        self.assert_body("give g ( x , r )", "fit")
        self.assert_body("give f ( x , r )", None)
        self.assert_body("give h ( x , z )", "name")
        self.assert_body("give x ( )", "name")
        self.assert_body("give g ( z )", "count", result="Row")
        self.assert_body("give g ( x , r , z )", "count", result="Row")
        self.assert_body("give g ( r , z )", "fit", result="Row")
        self.assert_body("give g ( z , x )", "name", result="Row")
        self.assert_body("give g ( x , x )", "fit", result="Row")

    def test_a_maker_and_a_function_may_share_a_name_with_others(self):
        text = "kind Box { Box ( whole ) } def box ( Box box ) : Box { give box ( Box ( 1 ) ) }"
        self.assert_fault(text, None)


if __name__ == "__main__":
    unittest.main()
