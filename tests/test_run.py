"""Points 3 and 4: input and run."""

import unittest

from tests.helper import ARROWS, EXAMPLE, HUGE, OMEGA, RUN, SHOW, SIZE
from tests.helper import ask, ask_of, count_down, given, program, values


class Inputs(unittest.TestCase):
    def test_the_answer_is_what_it_was(self):
        rows = ask(given(4), given(9), given(9), given(0), given(7))
        self.assertEqual(rows, [[0], [4], [9], [9], [0]])

    def test_each_input_is_taken(self):
        for number in range(10):
            rows = ask(program("in"), given(number), RUN)
            self.assertEqual(rows, [[1], [0], [0, 0, 0, number, 1]])

    def test_refused_inputs_change_nothing(self):
        for number in (-1, 10, 11, -9, 100, HUGE, -HUGE):
            rows = ask(program("in"), given(6), given(number), RUN, given(3))
            self.assertEqual(rows, [[1], [0], [-2], [0, 0, 0, 6, 1], [6]], number)

    def test_a_program_leaves_the_input(self):
        rows = ask(given(8), program("in"), RUN, program("(new in"), given(2))
        self.assertEqual(rows, [[0], [1], [0, 0, 0, 8, 1], [-1], [8]])

    def test_an_input_leaves_the_program(self):
        self.assertEqual(ask(program("(add in 1)"), given(8), RUN)[2], [0, 0, 0, 9, 3])
        self.assertEqual(ask(given(8), SHOW), [[0], [1, 48]])


class RunTest(unittest.TestCase):
    def check(self, text, *wanted):
        self.assertEqual(ask_of(text, RUN), [list(wanted)], text)


class RunsThatEnd(RunTest):
    def test_numbers(self):
        self.check("0", 0, 0, 0, 0, 1)
        self.check("99", 0, 0, 0, 99, 1)
        self.check("in", 0, 0, 0, 0, 1)

    def test_functions(self):
        self.check("(fun x x)", 0, 1, 0, 0, 1)
        self.check("(let x 5 (fun y x))", 0, 1, 2, 0, 3)

    def test_pairs(self):
        self.check("(pair 1 2)", 0, 2, 0, 0, 3)
        self.check("(fst (pair (pair 7 8) 9))", 0, 2, 2, 0, 6)

    def test_references(self):
        self.check("(new 1)", 0, 3, 0, 0, 2)
        self.check("(snd (pair 1 (new 2)))", 0, 3, 3, 0, 5)

    def test_parts_of_pairs(self):
        self.check("(fst (pair 7 8))", 0, 0, 0, 7, 4)
        self.check("(snd (pair 7 8))", 0, 0, 0, 8, 4)

    def test_sums(self):
        self.check("(add 40 2)", 0, 0, 0, 42, 3)
        self.check("(add 99 0)", 0, 0, 0, 99, 3)
        self.check("(add 99 1)", 0, 0, 0, 0, 3)
        self.check("(add 99 99)", 0, 0, 0, 98, 3)

    def test_choices(self):
        self.check("(if 0 1 (fst 0))", 0, 0, 0, 1, 3)
        self.check("(if 1 (fst 0) 2)", 0, 0, 0, 2, 3)
        self.check("(if 99 1 2)", 0, 0, 0, 2, 3)
        self.check("(if (add 99 1) 1 2)", 0, 0, 0, 1, 5)

    def test_references_hold_what_was_set_last(self):
        self.check("(get (new 5))", 0, 0, 0, 5, 3)
        self.check("(set (new 5) 6)", 0, 0, 0, 6, 4)
        self.check("(let r (new 5) (let u (set r 6) (get r)))", 0, 0, 0, 6, 9)
        self.check("(let r (new 5) (pair (set r (new 1)) (get r)))", 0, 2, 3, 0, 10)
        self.check("(let r (new 5) (add (get r) (set r 6)))", 0, 0, 0, 11, 9)
        self.check("(let r (new 5) (add (set r 6) (get r)))", 0, 0, 0, 12, 9)

    def test_two_references_of_one_node_are_two(self):
        text = "(let m (fun x (new x)) (let a (m 1) (let b (m 2) (let u (set a 9) (get b)))))"
        self.check(text, 0, 0, 0, 2, 20)

    def test_one_reference_under_two_names_is_one(self):
        self.check("(let a (new 1) (let b a (let u (set a 9) (get b))))", 0, 0, 0, 9, 11)

    def test_calls(self):
        self.check("((fun x x) 7)", 0, 0, 0, 7, 4)
        self.check("((fun x (add x x)) 7)", 0, 0, 0, 14, 6)
        self.check("((fun x 3) (fun y y))", 0, 0, 0, 3, 4)
        self.check("(((fun x (fun y (pair x y))) 1) 2)", 0, 2, 4, 0, 9)

    def test_the_innermost_binder_counts(self):
        self.check("(let x 1 (let x 2 x))", 0, 0, 0, 2, 5)
        self.check("(let x 1 (let x (add x 4) x))", 0, 0, 0, 5, 7)
        self.check("((fun x ((fun x x) 2)) 1)", 0, 0, 0, 2, 7)
        self.check("(let x 1 (add (let x 2 x) x))", 0, 0, 0, 3, 7)

    def test_functions_keep_what_was_bound_where_they_were_made(self):
        self.check("(let x 1 (let f (fun y x) (let x 2 (f 0))))", 0, 0, 0, 1, 10)
        self.check("(let k (fun x (fun y x)) (let a (k 1) (let b (k 2) (a 0))))", 0, 0, 0, 1, 16)

    def test_the_input_is_no_bound_name(self):
        self.assertEqual(ask_of("((fun x in) 7)", given(4), RUN)[1], [0, 0, 0, 4, 4])

    def test_the_example(self):
        rows = ask_of(EXAMPLE, given(4), RUN)
        self.assertEqual(rows, [[0], [0, 2, 3, 0, 11]])


class WrongRuns(RunTest):
    def test_calls_of_what_is_no_function(self):
        self.check("(0 1)", 1, 0, 3)
        self.check("(in in)", 1, 0, 3)
        self.check("((pair 0 0) 1)", 1, 0, 5)
        self.check("((new 0) 1)", 1, 0, 4)

    def test_choices_by_what_is_no_number(self):
        self.check("(if (fun x x) 1 2)", 1, 0, 2)
        self.check("(if (pair 0 0) 1 2)", 1, 0, 4)
        self.check("(if (new 0) 1 2)", 1, 0, 3)

    def test_parts_of_what_is_no_pair(self):
        for word in ("fst", "snd"):
            self.check("(" + word + " 0)", 1, 0, 2)
            self.check("(" + word + " (fun x x))", 1, 0, 2)
            self.check("(" + word + " (new (pair 1 2)))", 1, 0, 5)

    def test_what_is_in_no_reference(self):
        self.check("(get 0)", 1, 0, 2)
        self.check("(get (fun x x))", 1, 0, 2)
        self.check("(get (pair 0 0))", 1, 0, 4)

    def test_setting_what_is_no_reference(self):
        self.check("(set 0 1)", 1, 0, 3)
        self.check("(set (fun x x) 1)", 1, 0, 3)
        self.check("(set (pair 0 0) (new 0))", 1, 0, 6)

    def test_sums_of_what_is_no_number(self):
        self.check("(add 0 (fun x x))", 1, 0, 3)
        self.check("(add (fun x x) 0)", 1, 0, 3)
        self.check("(add (pair 0 0) 1)", 1, 0, 5)
        self.check("(add 1 (new 0))", 1, 0, 4)

    def test_both_parts_are_run_first(self):
        self.check("(0 (fst 1))", 1, 2, 4)
        self.check("(set 0 (fst 1))", 1, 2, 4)
        self.check("(add (fun x x) (fst 1))", 1, 3, 4)

    def test_the_left_part_is_run_first(self):
        for text in ("(pair (fst 0) (get 0))", "(add (fst 0) (get 0))", "(set (fst 0) (get 0))"):
            self.check(text, 1, 1, 3)
        self.check("((fst 0) (get 0))", 1, 1, 3)
        self.check("(let x (fst 0) (get 0))", 1, 1, 3)

    def test_wrong_within_a_function(self):
        self.check("(let f (fun x (fst x)) (f 1))", 1, 2, 7)

    def test_what_is_not_run_is_not_wrong(self):
        self.check("(fun x (0 0))", 0, 1, 0, 0, 1)
        self.check("(if 0 1 (0 0))", 0, 0, 0, 1, 3)


class LongRuns(RunTest):
    def test_a_run_without_end(self):
        self.check(OMEGA, 2, 300)

    def test_just_so_many_steps(self):
        end = "(pair (add 0 0) (pair (add 0 0) (new 0)))"
        self.check(count_down(28, end), 0, 2, 5, 0, 300)

    def test_one_step_more(self):
        end = "(pair (add 0 0) (pair (add 0 0) (add 0 0)))"
        self.check(count_down(28, end), 2, 300)

    def test_one_step_less(self):
        end = "(pair (add 0 0) (pair (add 0 0) 0))"
        self.check(count_down(28, end), 0, 2, 5, 0, 299)

    def test_wrong_at_the_last_step(self):
        end = "(pair (add 0 0) (pair (add 0 0) (fst 0)))"
        self.check(count_down(28, end), 1, 13, 300)

    def test_steps_are_counted_anew_for_each_run(self):
        end = "(pair (add 0 0) (pair (add 0 0) (new 0)))"
        rows = ask_of(count_down(28, end), RUN, SIZE, RUN, ARROWS, RUN)
        self.assertEqual(rows[0], rows[2])
        self.assertEqual(rows[0], rows[4])

    def test_a_run_that_nests_its_calls(self):
        text = "(let f (fun s (fun n (if n 0 (add 1 ((s s) (add n 99)))))) ((f f) TIMES))"
        self.check(text.replace("TIMES", "24"), 0, 0, 0, 24, 299)
        self.check(text.replace("TIMES", "25"), 2, 300)

    def test_long_by_the_input(self):
        text = "(if in ((fun x (x x)) (fun x (x x))) 1)"
        rows = ask_of(text, RUN, given(1), RUN, values(0))
        self.assertEqual(rows, [[2, 300], [0], [0, 0, 0, 1, 3], [1, 0, 0]])


if __name__ == "__main__":
    unittest.main()
