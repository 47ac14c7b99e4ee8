"""Points 5 to 8: arrows, calls, values and flows."""

import unittest

from tests.helper import ARROWS, EXAMPLE, HUGE, OMEGA, RUN
from tests.helper import ask, ask_of, calls, chain, count_down, flows, given, program, values

# The call 2 calls the functions 8, 13 and 17.
SEVERAL = "(let a (fun f (f 1)) (pair (a (fun x x)) (pair (a (fun y y)) (a (fun z 0)))))"
# The body of the function that the call 12 calls would be step 301.
CALL_AT_THE_END = count_down(28, "(pair (pair (add 0 0) (new 0)) ((fun z z) 0))")


class Arrows(unittest.TestCase):
    def check(self, text, *wanted):
        self.assertEqual(ask_of(text, ARROWS), [list(wanted)], text)

    def test_none(self):
        self.assertEqual(ask(ARROWS), [[0]])
        self.check("(fun x (x x))", 0)
        self.check("(0 0)", 0)

    def test_one_function_from_several_sites(self):
        self.check(EXAMPLE, 2, 4, 1, 7, 1)

    def test_one_site_with_several_functions(self):
        self.check(SEVERAL, 6, 6, 1, 2, 8, 11, 1, 2, 13, 15, 1, 2, 17)

    def test_each_once_though_in_several_strings(self):
        text = "(let f (fun x (x 0)) (let g (fun y y) (pair (f g) (f g))))"
        self.check(text, 3, 9, 1, 2, 6, 12, 1)
        self.assertEqual(ask_of(text, calls(2)), [[2, 6, 1, 9, 6, 1, 12]])

    def test_the_order_of_coming_about(self):
        # The argument's call comes about before the call that it is handed to.
        self.check("((fun x x) ((fun y y) 1))", 2, 3, 4, 0, 1)
        self.check("((fun x ((fun y y) x)) 1)", 2, 0, 1, 2, 3)

    def test_wrong_runs(self):
        self.check("((fun x (fst x)) 1)", 1, 0, 1)
        self.check("(pair ((fun x x) 1) (0 0))", 1, 1, 2)
        self.check("(pair (0 0) ((fun x x) 1))", 0)

    def test_long_runs(self):
        self.check(OMEGA, 3, 0, 1, 2, 5, 6, 5)

    def test_a_call_comes_about_before_its_body_is_run(self):
        rows = ask_of(CALL_AT_THE_END, RUN, ARROWS, calls(12), values(12), values(13), values(14))
        self.assertEqual(rows[0], [2, 300])
        self.assertEqual(rows[1][-2:], [12, 13])
        self.assertEqual(rows[2:], [[1, 13, 3, 16, 16, 16], [0], [1, 1, 13], [0]])

    def test_the_input_counts(self):
        text = "((if in (fun x 1) (fun y 2)) 0)"
        rows = ask_of(text, ARROWS, given(3), ARROWS)
        self.assertEqual(rows, [[1, 0, 3], [0], [1, 0, 5]])


class Calls(unittest.TestCase):
    def check(self, text, label, *wanted):
        self.assertEqual(ask_of(text, calls(label)), [list(wanted)], (text, label))

    def test_the_empty_string(self):
        self.check(EXAMPLE, 7, 1, 1, 0)
        self.check(EXAMPLE, 4, 1, 1, 0)

    def test_several_functions(self):
        self.check(SEVERAL, 2, 3, 8, 1, 6, 13, 1, 11, 17, 1, 15)

    def test_a_call_that_is_not_run(self):
        self.check("(fun x (x x))", 1, 0)
        self.check("(if 0 1 (0 0))", 3, 0)

    def test_a_call_that_is_wrong(self):
        self.check("(0 0)", 0, 0)

    def test_the_same_call_is_told_once(self):
        # Each round makes a new function of the fun 2 and calls it; by its label it's the same.
        text = "(let f (fun s (fun n (if n 0 ((s s) (add n 99))))) ((f f) 9))"
        self.check(text, 6, 4, 2, 1, 13, 2, 2, 6, 13, 2, 3, 6, 6, 13, 2, 3, 6, 6, 6)

    def test_the_string_is_cut_at_three_sites(self):
        text = chain("(fun x ((fun w w) x))", "(pair (e 1) (e 2))")
        rows = ask_of(text, *[calls(label) for label in (22, 25, 18, 13, 8, 2)])
        wanted = [
            [1, 17, 0], [1, 17, 0],
            [2, 12, 1, 22, 12, 1, 25],
            [2, 7, 2, 18, 22, 7, 2, 18, 25],
            [2, 1, 3, 13, 18, 22, 1, 3, 13, 18, 25],
            [1, 3, 3, 8, 13, 18],
        ]
        self.assertEqual(rows, wanted)

    def test_the_string_is_the_sites_own_after_a_call_came_back(self):
        text = "(let f (fun x x) ((fun y (pair (f y) (f y))) (f 1)))"
        rows = ask_of(text, calls(3), calls(6), calls(9), calls(12))
        self.assertEqual(rows, [[1, 4, 0], [1, 1, 1, 3], [1, 1, 1, 3], [1, 1, 0]])

    def test_the_string_is_where_a_function_is_called_not_where_it_was_made(self):
        text = "(let k (fun x (fun y ((fun z z) y))) ((k 1) 2))"
        self.check(text, 3, 1, 4, 1, 7)

    def test_the_string_of_a_lets_and_a_calls_parts(self):
        self.check("((fun x (let u (x 1) (x u))) (fun z z))", 3, 1, 9, 1, 0)
        self.check("(((fun x (fun y x)) 1) 2)", 0, 1, 3, 0)

    def test_long_runs(self):
        self.check(OMEGA, 0, 1, 1, 0)
        self.check(OMEGA, 2, 1, 5, 1, 0)
        self.check(OMEGA, 6, 4, 5, 2, 2, 0, 5, 3, 6, 2, 0, 5, 3, 6, 6, 2, 5, 3, 6, 6, 6)

    def test_wrong_runs(self):
        self.check("((fun x (fst x)) 1)", 0, 1, 1, 0)
        self.check("(let f (fun x (x 0)) (pair (f (fun y y)) (f 1)))", 2, 1, 8, 1, 6)

    def test_labels_that_no_node_has(self):
        for label in (-1, 11, 12, 30, HUGE, -HUGE):
            self.check(EXAMPLE, label, -3)
        self.assertEqual(ask(calls(0), calls(1), calls(-1)), [[-5], [-3], [-3]])

    def test_nodes_that_are_no_calls(self):
        for label in (0, 1, 2, 3, 5, 6, 8, 9, 10):
            self.check(EXAMPLE, label, -5)
        for text in ("in", "(if 0 0 0)", "(fst 0)", "(snd 0)", "(new 0)", "(get 0)", "(set 0 0)", "(add 0 0)"):
            self.check(text, 0, -5)


class Values(unittest.TestCase):
    def check(self, text, label, *wanted):
        self.assertEqual(ask_of(text, values(label)), [list(wanted)], (text, label))

    def test_the_example(self):
        rows = ask_of(EXAMPLE, *[values(label) for label in range(11)])
        wanted = [
            [1, 2, 3], [1, 1, 1], [2, 0, 0, 1, 9], [1, 2, 3], [1, 0, 0], [1, 1, 1], [1, 0, 0],
            [1, 1, 9], [1, 1, 1], [1, 1, 9], [0],
        ]
        self.assertEqual(rows, wanted)

    def test_each_kind_of_value(self):
        self.check("7", 0, 1, 0, 0)
        self.check("(new 0)", 0, 1, 3, 0)
        self.check("(pair 0 1)", 0, 1, 2, 0)
        self.check("(fun x x)", 0, 1, 1, 0)

    def test_each_once_in_order(self):
        text = "(let f (fun x x) (pair (pair (f (fun y y)) (f 1)) (pair (f (new 2)) (pair (f 3) (f (fun z z))))))"
        self.check(text, 2, 4, 1, 7, 0, 0, 3, 15, 1, 23)

    def test_unlike_strings_do_not_tell_a_value_twice(self):
        self.check("(let f (fun x x) (pair (f 1) (f 2)))", 2, 1, 0, 0)

    def test_all_functions_of_a_fun_are_one(self):
        self.check("(let k (fun x (fun y x)) (pair (k 1) (k 2)))", 2, 1, 1, 2)

    def test_a_set_gives_what_it_puts_in(self):
        self.check("(set (new 0) (fun x x))", 0, 1, 1, 3)

    def test_a_reference_is_told_by_its_own_label(self):
        self.check("(let r (new 1) (let u (set r (new 2)) (get r)))", 8, 1, 3, 6)
        self.check("(let r (new 1) (let u (set r (new 2)) (get r)))", 9, 1, 3, 1)

    def test_what_was_not_run(self):
        self.check("(fun x x)", 1, 0)
        self.check("(if 0 1 2)", 3, 0)

    def test_wrong_runs(self):
        rows = ask_of("(pair 1 (add 2 (fun x x)))", *[values(label) for label in range(6)])
        self.assertEqual(rows, [[0], [1, 0, 0], [0], [1, 0, 0], [1, 1, 4], [0]])

    def test_long_runs(self):
        rows = ask_of(OMEGA, *[values(label) for label in range(9)])
        self.assertEqual(rows, [[0], [1, 1, 1], [0], [1, 1, 5], [1, 1, 5], [1, 1, 5], [0], [1, 1, 5], [1, 1, 5]])

    def test_labels_that_no_node_has(self):
        for label in (-1, 11, 12, 30, HUGE, -HUGE):
            self.check(EXAMPLE, label, -3)
        self.assertEqual(ask(values(0), values(1), values(-1)), [[1, 0, 0], [-3], [-3]])

    def test_labels_are_those_of_the_program_now(self):
        rows = ask(program("(new 0)"), values(1), program("5"), values(1), program("("), values(0))
        self.assertEqual(rows, [[2], [1, 0, 0], [1], [-3], [-1], [1, 0, 0]])


class Flows(unittest.TestCase):
    def check(self, text, label, *wanted):
        self.assertEqual(ask_of(text, flows(label)), [list(wanted)], (text, label))

    def test_the_example(self):
        rows = ask_of(EXAMPLE, *[flows(label) for label in range(11)])
        wanted = [
            [1, 2, 3, 0], [1, 1, 1, 0], [2, 0, 0, 1, 4, 1, 9, 1, 7], [1, 2, 3, 0], [1, 0, 0, 0], [1, 1, 1, 0],
            [1, 0, 0, 0], [1, 1, 9, 0], [1, 1, 1, 0], [1, 1, 9, 0], [0],
        ]
        self.assertEqual(rows, wanted)

    def test_each_kind_of_value(self):
        self.check("7", 0, 1, 0, 0, 0)
        self.check("(fun x x)", 0, 1, 1, 0, 0)
        self.check("(pair 0 1)", 0, 1, 2, 0, 0)
        self.check("(new 0)", 0, 1, 3, 0, 0)

    def test_one_value_in_unlike_strings(self):
        self.check("(let f (fun x x) (pair (f 1) (f 2)))", 2, 2, 0, 0, 1, 4, 0, 0, 1, 7)

    def test_unlike_values_in_one_string(self):
        # What tells the calls from 19 and from 22 apart is cut off in the string of the node 2.
        text = chain("(fun x x)", "(pair (e 1) (e (fun z z)))")
        self.check(text, 2, 2, 0, 0, 3, 5, 10, 15, 1, 24, 3, 5, 10, 15)

    def test_each_once_in_order(self):
        text = chain("(fun x x)", "(pair (e 1) (pair (e (fun z z)) (e 2)))")
        self.check(text, 2, 2, 0, 0, 3, 5, 10, 15, 1, 25, 3, 5, 10, 15)
        text = chain("(fun x x)", "(pair (e (fun z z)) (e 2))")
        self.check(text, 2, 2, 1, 21, 3, 5, 10, 15, 0, 0, 3, 5, 10, 15)

    def test_other_numbers_and_other_things_of_one_label_are_the_same_flow(self):
        self.check(chain("(fun x (new x))", "(pair (e 1) (e 2))"), 2, 1, 3, 2, 3, 6, 11, 16)
        self.check(chain("(fun x (pair x x))", "(pair (e 1) (e 2))"), 3, 1, 0, 0, 3, 7, 12, 17)

    def test_the_string_is_cut_at_three_sites_the_latest_first(self):
        text = chain("(fun x x)", "(e 1)")
        rows = ask_of(text, *[flows(label) for label in (18, 17, 12, 7, 2)])
        wanted = [
            [1, 0, 0, 0], [1, 0, 0, 1, 18], [1, 0, 0, 2, 15, 18], [1, 0, 0, 3, 10, 15, 18], [1, 0, 0, 3, 5, 10, 15],
        ]
        self.assertEqual(rows, wanted)

    def test_a_flow_comes_about_after_those_in_it(self):
        text = "(let f (fun s (fun n (if n 0 (add 1 ((s s) (add n 99)))))) ((f f) 2))"
        rows = ask_of(text, flows(3), flows(4))
        inwards = [0, 0, 1, 15, 0, 0, 2, 8, 15, 0, 0, 3, 8, 8, 15]
        outwards = [0, 0, 3, 8, 8, 15, 0, 0, 2, 8, 15, 0, 0, 1, 15]
        self.assertEqual(rows, [[3] + outwards, [3] + inwards])

    def test_a_call_gives_its_value_in_its_own_string(self):
        text = "((fun x ((fun y (pair y x)) 1)) 2)"
        rows = ask_of(text, flows(0), flows(2), flows(4), flows(5))
        self.assertEqual(rows, [[1, 2, 4, 0], [1, 2, 4, 1, 0], [1, 2, 4, 2, 2, 0], [1, 0, 0, 2, 2, 0]])

    def test_lets_and_choices_stay_in_their_string(self):
        text = "((fun x (let y (if x 1 2) (add x y))) 0)"
        rows = ask_of(text, *[flows(label) for label in (2, 3, 4, 5, 6, 7)])
        self.assertEqual(rows, [[1, 0, 0, 1, 0]] * 4 + [[0], [1, 0, 0, 1, 0]])

    def test_what_was_never_come_to(self):
        self.check("(fun x x)", 1, 0)
        self.check("(if 0 1 2)", 3, 0)
        self.check("(pair (fst 0) 1)", 3, 0)

    def test_where_the_run_stood_still(self):
        self.check("(fst 0)", 0, 0)
        self.check("(pair 1 (get 2))", 0, 0)
        self.check("(pair 1 (get 2))", 2, 0)
        self.check(OMEGA, 0, 0)
        self.check(OMEGA, 6, 0)

    def test_wrong_runs(self):
        rows = ask_of("((fun x (add x (fst x))) 1)", *[flows(label) for label in range(7)])
        self.assertEqual(rows, [[0], [1, 1, 1, 0], [0], [1, 0, 0, 1, 0], [0], [1, 0, 0, 1, 0], [1, 0, 0, 0]])

    def test_a_node_that_is_wrong_only_later(self):
        text = "(let f (fun x (fst x)) (pair (f (pair 1 2)) (f 3)))"
        self.check(text, 2, 1, 0, 0, 1, 5)
        self.check(text, 3, 2, 2, 7, 1, 5, 0, 0, 1, 10)

    def test_long_runs(self):
        wanted = [4, 1, 5, 2, 2, 0, 1, 5, 3, 6, 2, 0, 1, 5, 3, 6, 6, 2, 1, 5, 3, 6, 6, 6]
        self.assertEqual(ask_of(OMEGA, flows(1), flows(3), flows(7)), [[1, 1, 1, 0], [1, 1, 5, 1, 0], wanted])

    def test_the_last_step_of_a_long_run(self):
        rows = ask_of(CALL_AT_THE_END, *[flows(label) for label in (12, 13, 14, 15)])
        self.assertEqual(rows, [[0], [1, 1, 13, 3, 16, 16, 16], [0], [1, 0, 0, 3, 16, 16, 16]])

    def test_the_input_counts(self):
        rows = ask_of("(if in 1 (new 2))", flows(0), flows(2), given(1), flows(0), flows(2))
        self.assertEqual(rows, [[1, 0, 0, 0], [1, 0, 0, 0], [0], [1, 3, 3, 0], [0]])

    def test_labels_that_no_node_has(self):
        for label in (-1, -2, 11, 12, 30, HUGE, -HUGE):
            self.check(EXAMPLE, label, -3)
        self.assertEqual(ask(flows(0), flows(1), flows(-1)), [[1, 0, 0, 0], [-3], [-3]])

    def test_labels_are_those_of_the_program_now(self):
        rows = ask(program("(new 0)"), flows(1), program("5"), flows(1), program("("), flows(0))
        self.assertEqual(rows, [[2], [1, 0, 0, 0], [1], [-3], [-1], [1, 0, 0, 0]])


if __name__ == "__main__":
    unittest.main()
