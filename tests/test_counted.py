"""Points 12 and 13: heap and size."""

import unittest

from tests.helper import ARROWS, EXAMPLE, HEAP, OMEGA, RUN, SIZE
from tests.helper import add_row, ask, ask_of, chain, count_down, flows, given, nest, program


class Heap(unittest.TestCase):
    def check(self, text, *wanted):
        self.assertEqual(ask_of(text, HEAP), [list(wanted)], text)

    def test_the_example(self):
        self.assertEqual(ask_of(EXAMPLE, given(4), HEAP)[1], [3, 3])

    def test_nothing_made(self):
        self.assertEqual(ask(HEAP), [[0, 0]])
        self.check("in", 0, 0)
        self.check("(let x 1 (if x (add x 2) 3))", 0, 0)

    def test_one_thing(self):
        self.check("(fun x x)", 1, 1)
        self.check("(pair 1 2)", 1, 1)
        self.check("(new 1)", 1, 1)

    def test_things_in_one_another(self):
        self.check("(new (pair (fun x x) (new 1)))", 4, 4)

    def test_functions_of_one_label(self):
        self.check("(let k (fun x (fun y x)) (pair (k 1) (k 2)))", 4, 3)

    def test_pairs_of_one_label(self):
        self.check("(let f (fun x (pair x x)) (add (fst (f 1)) (snd (f 2))))", 3, 2)

    def test_references_of_one_label(self):
        self.check("(let m (fun x (new x)) (add (get (m 1)) (add (get (m 2)) (get (m 3)))))", 4, 2)

    def test_things_of_one_label_in_one_string(self):
        self.check(count_down(20, "0"), 22, 2)
        self.check(count_down(20, "(new 1)"), 23, 3)

    def test_what_is_made_and_never_used(self):
        self.check("(let u (fun x x) 1)", 1, 1)
        self.check("(let u (pair 1 2) 3)", 1, 1)
        self.check("(let u (new 1) 2)", 1, 1)
        self.check("(fst (pair 1 (new 2)))", 2, 2)
        self.check("((fun x 1) (new 2))", 2, 2)

    def test_what_is_given_again_is_not_made_again(self):
        self.check("(let x (new 1) (add (get x) (get x)))", 1, 1)
        self.check("(let f (fun x x) (f (f (f f))))", 1, 1)
        self.check("(let p (pair 1 2) (if 0 p p))", 1, 1)
        self.check("(fst (pair (fun x x) 1))", 2, 2)

    def test_setting_makes_nothing(self):
        self.check("(set (new 1) 2)", 1, 1)
        self.check("(let r (new 1) (let u (set r 2) (set r 3)))", 1, 1)

    def test_what_is_not_run_is_not_made(self):
        self.check("(if 0 1 (new 2))", 0, 0)
        self.check("(fun x (pair (new 1) (fun y y)))", 1, 1)

    def test_wrong_runs(self):
        self.check("(0 0)", 0, 0)
        self.check("(fst (fun x x))", 1, 1)
        self.check("((pair 1 2) (new 3))", 2, 2)
        self.check("(let m (fun x (new x)) (pair (m 1) (fst (m 2))))", 3, 2)

    def test_wrong_before_it_is_made(self):
        self.check("(new (fst 0))", 0, 0)
        self.check("(pair (new 1) (fst 0))", 1, 1)
        self.check("(pair (fst 0) (new 1))", 0, 0)

    def test_long_runs(self):
        self.check(OMEGA, 2, 2)
        # 8 steps, and then 7 in each round; the fun 2 is come to in the 5th of these, the new 7 in the 6th.
        self.check("(let f (fun s (fun n ((s s) (new n)))) ((f f) 0))", 85, 3)

    def test_long_before_it_is_made(self):
        end = "(pair (add 0 0) (pair (add 0 0) LAST))"
        rows = ask_of(count_down(28, end.replace("LAST", "(new 0)")), RUN, HEAP)
        self.assertEqual(rows, [[0, 2, 5, 0, 300], [33, 5]])
        rows = ask_of(count_down(28, end.replace("LAST", "(new (new 0))")), RUN, HEAP)
        self.assertEqual(rows, [[2, 300], [30, 2]])

    def test_the_input_counts(self):
        rows = ask_of("(if in (new 1) (pair (new 1) (fun x x)))", HEAP, given(7), HEAP)
        self.assertEqual(rows, [[1, 1], [0], [3, 3]])

    def test_the_program_now(self):
        rows = ask(program("(new 1)"), HEAP, program("(new"), HEAP, program("2"), HEAP)
        self.assertEqual(rows, [[2], [1, 1], [-1], [1, 1], [1], [0, 0]])

    def test_each_run_makes_anew(self):
        self.assertEqual(ask_of(EXAMPLE, HEAP, RUN, HEAP, HEAP), [[3, 3], [0, 2, 3, 0, 11], [3, 3], [3, 3]])


class Size(unittest.TestCase):
    def check(self, text, *wanted):
        self.assertEqual(ask_of(text, SIZE), [list(wanted)], text)

    def test_the_example(self):
        self.assertEqual(ask_of(EXAMPLE, given(4), SIZE)[1], [11, 4, 2, 11])

    def test_one_node(self):
        self.assertEqual(ask(SIZE), [[1, 0, 0, 1]])
        self.check("in", 1, 0, 0, 1)
        self.check("99", 1, 0, 0, 1)

    def test_thirty_nodes(self):
        self.check("(new " + add_row(14) + ")", 30, 5, 0, 30)
        self.check("(pair " + add_row(13) + " (fun x x))", 30, 5, 0, 29)

    def test_as_deep_as_can_be(self):
        self.check(nest("new", 8, "0"), 9, 8, 0, 9)
        self.check(nest("fun x", 8, "x"), 9, 8, 0, 1)
        self.check("(" * 8 + "0" + " 0)" * 8, 17, 8, 0, 2)

    def test_depth_is_the_deepest_nodes(self):
        self.check("(pair (new (new 1)) 2)", 5, 3, 0, 5)
        self.check("(if 1 (new (new 1)) 2)", 6, 3, 0, 3)
        self.check("(fun x (new (new x)))", 4, 3, 0, 1)

    def test_flows_are_told_apart_by_label_string_and_value(self):
        self.check("(let f (fun x x) (pair (f 1) (f 2)))", 10, 3, 2, 11)
        # The node 2 gives its values in the same string, as what tells them apart is cut off.
        self.check(chain("(fun x x)", "(pair (e 1) (e 2))"), 25, 6, 5, 34)
        self.check(chain("(fun x x)", "(pair (e 1) (e (fun z z)))"), 26, 7, 5, 35)

    def test_wrong_and_long_runs(self):
        self.check("(0 0)", 3, 1, 0, 2)
        self.check("((fun x (fst x)) 1)", 5, 3, 1, 3)
        # The parts of the call 6 give a function each, in 4 strings.
        self.check(OMEGA, 9, 3, 3, 12)
        self.check("(pair ((fun x x) 1) (fst ((fun y y) 2)))", 10, 4, 2, 8)

    def test_arrows_and_flows_are_those_that_are_told(self):
        for text in (EXAMPLE, OMEGA, count_down(28, "0"), count_down(29, "0"), chain("(fun x (x 0))", "(e (fun y y))")):
            size = ask_of(text, SIZE)[0]
            rows = ask_of(text, ARROWS, *[flows(label) for label in range(size[0])])
            self.assertEqual(size[2], rows[0][0], text)
            self.assertEqual(size[3], sum(row[0] for row in rows[1:]), text)

    def test_a_flow_that_comes_again_is_one(self):
        text = "(let f (fun s (fun n (if n 0 ((s s) (add n 99))))) ((f f) TIMES))"
        sizes = [ask_of(text.replace("TIMES", str(times)), SIZE)[0] for times in range(30)]
        self.assertEqual(sizes[10], sizes[20])
        self.assertEqual(sizes[10][:3], [18, 6, 4])
        self.assertLess(sizes[2][3], sizes[3][3])

    def test_the_input_counts(self):
        rows = ask_of("(if in 1 ((fun x x) 2))", SIZE, given(1), SIZE)
        self.assertEqual(rows, [[7, 3, 0, 3], [0], [7, 3, 1, 6]])


if __name__ == "__main__":
    unittest.main()
