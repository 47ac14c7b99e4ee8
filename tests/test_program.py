"""Points 1 and 2: program and show."""

import unittest

from tests.helper import EXAMPLE, RUN, SHOW, SIZE, add_row, ask, given, nest, program, shown


class TakenPrograms(unittest.TestCase):
    def check(self, text, nodes):
        self.assertEqual(ask(program(text), SHOW), [[nodes], shown(text)], text)

    def test_numbers(self):
        for number in (0, 1, 9, 10, 42, 90, 99):
            self.check(str(number), 1)

    def test_each_kind(self):
        self.check("in", 1)
        self.check("(fun x x)", 2)
        self.check("(in 1)", 3)
        self.check("(0 0)", 3)
        self.check("((fun x x) (fun y y))", 5)
        self.check("(let x 1 x)", 3)
        self.check("(if 0 1 2)", 4)
        self.check("(pair 0 1)", 3)
        self.check("(fst 0)", 2)
        self.check("(snd 0)", 2)
        self.check("(new 0)", 2)
        self.check("(get 0)", 2)
        self.check("(set 0 0)", 3)
        self.check("(add 0 0)", 3)

    def test_names(self):
        self.check("(fun abcd abcd)", 2)
        self.check("(fun funx (funx funx))", 4)
        self.check("(fun fu (fu fu))", 4)
        self.check("(fun i (fun n (i in)))", 5)
        self.check("(fun inn inn)", 2)
        self.check("(fun azaz in)", 2)

    def test_where_binders_bind(self):
        self.check("(fun x (fun x x))", 3)
        self.check("(fun x (let y x (pair x y)))", 6)
        self.check("(let x 1 (let x x x))", 5)
        self.check("(let x (fun x x) x)", 4)

    def test_the_example(self):
        self.check(EXAMPLE, 11)

    def test_how_many_nodes(self):
        self.check(add_row(14), 29)
        self.check("(new " + add_row(14) + ")", 30)
        self.assertEqual(ask(program(add_row(15)), SHOW), [[-1], [1, 48]])

    def test_how_deep(self):
        self.check(nest("new", 7, "0"), 8)
        self.check(nest("new", 8, "0"), 9)
        self.check(nest("fun x", 8, "x"), 9)
        self.check("(add 0 " + nest("new", 7, "0") + ")", 10)
        self.check("(" * 8 + "0" + " 0)" * 8, 17)
        for text in (nest("new", 9, "0"), nest("fun x", 9, "x"), "(" * 9 + "0" + " 0)" * 9):
            self.assertEqual(ask(program(text)), [[-1]], text)
        self.assertEqual(ask(program("(add 0 " + nest("new", 8, "0") + ")")), [[-1]])

    def test_depth_is_told_by_size(self):
        for depth in range(9):
            self.assertEqual(ask(program(nest("new", depth, "0")), SIZE)[1][:2], [depth + 1, depth])


class RefusedPrograms(unittest.TestCase):
    def check(self, *texts):
        for text in texts:
            rows = ask(program("(add in 1)"), given(5), program(text), SHOW, RUN)
            wanted = [[3], [0], [-1], shown("(add in 1)"), [0, 0, 0, 6, 3]]
            self.assertEqual(rows, wanted, text)

    def test_empty(self):
        self.check("")

    def test_bytes_that_are_none_of_a_program(self):
        for byte in range(256):
            if not 48 <= byte <= 57:
                self.check([byte])
            if not 97 <= byte <= 122:
                self.check([40, 102, 117, 110, 32, byte, 32, byte, 41])
            self.check([40, byte, 41], [48, 32, byte], [byte, 32, 48])

    def test_neighbours_of_letters_and_digits(self):
        self.check("/", ":", "`", "{", "A", "X", "(fun X X)", "(fun x{ 0)", "(fun `x 0)", "(FUN x x)")
        self.check([105, 110, 10], [48, 0], [48, 9], [255], [0xC3, 0xA9])

    def test_numbers(self):
        self.check("00", "01", "007", "09", "100", "999", "000", "-1", "+1", "1.0", "1" * 2000)
        self.check("(add 1 01)", "(add 100 1)", "(add 1 100)")

    def test_blanks(self):
        self.check(" 0", "0 ", " ", "( add 1 2)", "(add  1 2)", "(add 1  2)", "(add 1 2 )", "(add 1 2) ")
        self.check("(fun  x x)", "(fun x  x)", "(fun x x )", "( fun x x)", "(let x  1 x)", "(let x 1  x)")
        self.check("( (fun x x) 1)", "((fun x x)  1)", "((fun x x) 1 )", "( 0 0)", "(0  0)", "(0 0 )")

    def test_missing_blanks(self):
        self.check("(add1 2)", "(add 12)", "(add(add 1 2) 3)", "(add 1(add 2 3))", "(fun x(fun y y))")
        self.check("((fun x x)1)", "(funx x)", "(fun xx)", "(fun x1)", "(0(fun x x))", "(fst(pair 0 0))")
        self.check("(let x 1x)", "(let x1 x)", "(letx 1 x)", "(if 0 12)", "(new0)", "(new(new 0))")

    def test_other_bytes_in_the_place_of_blanks(self):
        self.check("(add\t1 2)", "(add 1\n2)", "(add,1 2)")

    def test_brackets(self):
        self.check("(", ")", "()", "(())", "(0)", "((0 0))", "(0 0", "(0 0))", "0)", "(add 1 2", "add 1 2)")
        self.check("(add 1 2))", "((add 1 2)", "(add (add 1 2) 3", "(x)", "(fun x)", "((fun x x))", "[0 0]")

    def test_too_few_and_too_many_parts(self):
        self.check("(fun x)", "(fun x x x)", "(0 0 0)", "(let x 1)", "(let x 1 x x)", "(let x)", "(if 0 1)")
        self.check("(if 0 1 2 3)", "(pair 0)", "(pair 0 0 0)", "(fst)", "(fst 0 0)", "(snd)", "(snd 0 0)")
        self.check("(new)", "(new 0 0)", "(get)", "(get 0 0)", "(set 0)", "(set 0 0 0)", "(add 0)", "(add 0 0 0)")
        self.check("(fun)", "(let)", "(if)", "(pair)", "(set)", "(add)", "(fst )", "(add 0 )")

    def test_more_than_one_expression(self):
        self.check("0 0", "in in", "(add 1 2)(add 1 2)", "(add 1 2) 0", "1in", "in1", "0(")

    def test_long_names(self):
        self.check("(fun abcde abcde)", "(let abcde 1 0)", "(fun abcde 0)", "abcde", "a" * 2000)
        self.check("(fun abcd abcde)", "(fun abcd abcda)")

    def test_reserved_words_as_names(self):
        for word in ("fun", "let", "if", "pair", "fst", "snd", "new", "get", "set", "add"):
            self.check(word, "(fun " + word + " 0)", "(let " + word + " 1 0)", "(new " + word + ")")
            self.check("(0 " + word + ")", "(" + word + ")")

    def test_the_input_as_a_binders_name(self):
        self.check("(fun in in)", "(fun in 0)", "(let in 1 in)", "(let in 1 0)")

    def test_binders_that_are_no_names(self):
        self.check("(fun 1 0)", "(fun (0 0) 0)", "(let 1 1 0)", "(fun x1 0)", "(fun  0)", "(let  1 0)")

    def test_names_that_are_not_bound(self):
        self.check("x", "(fun x y)", "(let x x x)", "(let x x 1)", "(add (fun x x) x)", "(add (let x 1 x) x)")
        self.check("(let x (fun y x) x)", "((fun x x) x)", "(fun x (let y y x))", "(let x (fun y y) y)", "(x 0)")
        self.check("(let x (new x) 0)", "(let x (let y 1 x) 0)", "(fun ab a)", "(fun a ab)")

    def test_many_brackets(self):
        self.check("(" * 2000, ")" * 2000, "(" * 1000 + ")" * 1000, "(" * 999 + "0" + ")" * 1000)
        self.check("(new " * 300 + "0" + ")" * 300, "(" * 400 + "0" + " 0)" * 400, "()" * 1000)

    def test_many_nodes(self):
        self.check(add_row(15), add_row(60), "(new " + add_row(15) + ")", "(new (new " + add_row(14) + "))")


class Shown(unittest.TestCase):
    def test_a_new_object(self):
        self.assertEqual(ask(SHOW), [[1, 48]])
        self.assertEqual(ask(RUN), [[0, 0, 0, 0, 1]])
        self.assertEqual(ask(SIZE), [[1, 0, 0, 1]])

    def test_a_refused_first_program(self):
        self.assertEqual(ask(program("(0"), SHOW, RUN), [[-1], [1, 48], [0, 0, 0, 0, 1]])

    def test_the_last_program_taken(self):
        rows = ask(program("(new 1)"), SHOW, program("12"), SHOW, program("012"), SHOW)
        self.assertEqual(rows, [[2], shown("(new 1)"), [1], shown("12"), [-1], shown("12")])


if __name__ == "__main__":
    unittest.main()
