"""Points 9 to 11: node, funs and sites."""

import unittest

from tests.helper import EXAMPLE, FUNS, HUGE, OMEGA, SITES
from tests.helper import add_row, ask, ask_of, given, nest, node, program, shown

# Of each kind a program whose first node is of it.
KINDS = (
    "7", "in", "(fun x x)", "(0 1)", "(let x 1 x)", "(if 0 1 2)", "(pair 0 1)", "(fst 0)", "(snd 0)", "(new 0)",
    "(get 0)", "(set 0 1)", "(add 0 1)",
)


def told(kind, text, binder):
    return [kind] + shown(text) + [binder]


class Nodes(unittest.TestCase):
    def check(self, text, *wanted):
        """Each node's answer, label by label."""
        rows = ask_of(text, *[node(label) for label in range(len(wanted) + 1)])
        self.assertEqual(rows, [told(*row) for row in wanted] + [[-3]], text)

    def test_each_kind_as_the_first_node(self):
        for kind, text in enumerate(KINDS):
            self.assertEqual(ask_of(text, node(0)), [told(kind, text, 0)])

    def test_each_kind_in_the_middle(self):
        for kind, text in enumerate(KINDS):
            rows = ask_of("(fun x (pair (new 1) (pair " + text + " x)))", node(5))
            self.assertEqual(rows, [told(kind, text, 0)])

    def test_the_example(self):
        self.check(
            EXAMPLE,
            (4, EXAMPLE, 0), (2, "(fun x x)", 0), (1, "x", 2), (6, "(pair (id in) (id (fun y 3)))", 0),
            (3, "(id in)", 0), (1, "id", 1), (1, "in", 0),
            (3, "(id (fun y 3))", 0), (1, "id", 1), (2, "(fun y 3)", 0), (0, "3", 0),
        )

    def test_numbers_and_names_of_each_length(self):
        self.check(
            "(fun abcd (pair abcd (pair 10 (fun abc (let ab 9 abc)))))",
            (2, "(fun abcd (pair abcd (pair 10 (fun abc (let ab 9 abc)))))", 0),
            (6, "(pair abcd (pair 10 (fun abc (let ab 9 abc))))", 0), (1, "abcd", 1),
            (6, "(pair 10 (fun abc (let ab 9 abc)))", 0), (0, "10", 0),
            (2, "(fun abc (let ab 9 abc))", 0), (4, "(let ab 9 abc)", 0), (0, "9", 0), (1, "abc", 6),
        )

    def test_calls_within_calls(self):
        self.check(
            "(((fun x x) 12) (in 3))",
            (3, "(((fun x x) 12) (in 3))", 0), (3, "((fun x x) 12)", 0), (2, "(fun x x)", 0), (1, "x", 3),
            (0, "12", 0), (3, "(in 3)", 0), (1, "in", 0), (0, "3", 0),
        )

    def test_the_parts_of_a_choice(self):
        self.check(
            "(if (get 1) (snd 2) (set 3 44))",
            (5, "(if (get 1) (snd 2) (set 3 44))", 0), (10, "(get 1)", 0), (0, "1", 0), (8, "(snd 2)", 0),
            (0, "2", 0), (11, "(set 3 44)", 0), (0, "3", 0), (0, "44", 0),
        )

    def test_the_input_is_under_no_binder(self):
        self.check("in", (1, "in", 0))
        self.check("(fun i in)", (2, "(fun i in)", 0), (1, "in", 0))
        self.check("(let n in in)", (4, "(let n in in)", 0), (1, "in", 0), (1, "in", 0))

    def check_binders(self, text, *wanted):
        """The last number of each node's answer, label by label."""
        rows = ask_of(text, *[node(label) for label in range(len(wanted))])
        self.assertEqual([row[-1] for row in rows], list(wanted), text)

    def test_the_innermost_binder_counts(self):
        self.check_binders("(fun x (fun x x))", 0, 0, 2)
        self.check_binders("(fun x (fun x (fun x (x x))))", 0, 0, 0, 0, 3, 3)
        self.check_binders("(let x 1 (let x 2 (let x 3 x)))", 0, 0, 0, 0, 0, 0, 5)
        self.check_binders("(fun x (let x 1 x))", 0, 0, 0, 2)
        self.check_binders("(let x 1 (fun x x))", 0, 0, 0, 3)

    def test_binders_of_other_names_do_not_count(self):
        self.check_binders("(fun x (fun y x))", 0, 0, 1)
        self.check_binders("(fun x (fun xx (x xx)))", 0, 0, 0, 1, 2)
        self.check_binders("(let y 1 (fun x (let z 2 y)))", 0, 0, 0, 0, 0, 1)

    def test_binders_that_are_closed_do_not_count(self):
        self.check_binders("(fun x (pair (fun x x) x))", 0, 0, 0, 3, 1)
        self.check_binders("(fun x (pair (let x 1 x) x))", 0, 0, 0, 0, 3, 1)
        self.check_binders("(fun x (pair x (fun x x)))", 0, 0, 1, 0, 4)

    def test_a_lets_own_part_and_its_body(self):
        self.check_binders("(let x 1 (let x x x))", 0, 0, 0, 1, 3)
        self.check_binders("(fun x (let x x x))", 0, 0, 1, 2)
        self.check_binders("(fun x (let x (new x) (new x)))", 0, 0, 0, 1, 0, 2)
        self.check_binders("(let x (fun x x) x)", 0, 0, 2, 1)
        self.check_binders("(fun x (let y (let x x x) x))", 0, 0, 0, 1, 3, 1)

    def test_a_program_of_thirty_nodes(self):
        text = "(pair " + add_row(13) + " (fun x x))"
        rows = ask_of(text, *[node(label) for label in (0, 1, 27, 28, 29, 30)])
        wanted = [
            told(6, text, 0), told(12, add_row(13), 0), told(0, "0", 0), told(2, "(fun x x)", 0), told(1, "x", 29),
            [-3],
        ]
        self.assertEqual(rows, wanted)

    def test_the_deepest_node(self):
        rows = ask_of(nest("fun x", 8, "x"), node(0), node(7), node(8))
        self.assertEqual(rows, [told(2, nest("fun x", 8, "x"), 0), told(2, "(fun x x)", 0), told(1, "x", 8)])

    def test_nodes_that_are_not_run(self):
        rows = ask_of("(if 0 1 (0 (get 2)))", node(3), node(5))
        self.assertEqual(rows, [told(3, "(0 (get 2))", 0), told(10, "(get 2)", 0)])
        self.assertEqual(ask_of(OMEGA, node(6)), [told(3, "(x x)", 0)])

    def test_the_input_changes_nothing(self):
        rows = ask_of("(add in 1)", node(1), given(5), node(1))
        self.assertEqual(rows, [told(1, "in", 0), [0], told(1, "in", 0)])

    def test_labels_that_no_node_has(self):
        for label in (-1, -2, 11, 12, 30, HUGE, -HUGE):
            self.assertEqual(ask_of(EXAMPLE, node(label)), [[-3]], label)
        self.assertEqual(ask(node(0), node(1), node(-1)), [told(0, "0", 0), [-3], [-3]])

    def test_nodes_are_those_of_the_program_now(self):
        rows = ask(program("(new 12)"), node(1), program("in"), node(1), node(0), program("(new 1"), node(0))
        self.assertEqual(rows, [[2], told(0, "12", 0), [1], [-3], told(1, "in", 0), [-1], told(1, "in", 0)])


class FunsAndSites(unittest.TestCase):
    def check(self, text, funs, sites):
        self.assertEqual(ask_of(text, FUNS, SITES), [[len(funs)] + funs, [len(sites)] + sites], text)

    def test_a_new_object(self):
        self.assertEqual(ask(FUNS, SITES), [[0], [0]])

    def test_none(self):
        self.check("in", [], [])
        self.check("(let x 1 (if x (pair x 1) (add x 2)))", [], [])
        self.check("(set (new 0) (get (new (fst (snd 0)))))", [], [])

    def test_funs_alone(self):
        self.check("(fun x x)", [0], [])
        self.check("(pair (fun x x) (fun x x))", [1, 3], [])

    def test_sites_alone(self):
        self.check("(0 0)", [], [0])
        self.check("(pair (in 1) (2 in))", [], [1, 4])

    def test_the_example(self):
        self.check(EXAMPLE, [1, 9], [4, 7])

    def test_several_within_one_another(self):
        self.check("(fun x (fun y (fun z (x (y z)))))", [0, 1, 2], [3, 5])
        self.check("((((fun x x) 1) 2) ((fun y y) 3))", [3, 8], [0, 1, 2, 7])
        self.check(OMEGA, [1, 5], [0, 2, 6])

    def test_what_is_not_run_counts(self):
        self.check("(if 0 1 ((fun x x) 2))", [4], [3])
        self.check("(pair (fst 0) ((fun x (x x)) 2))", [4], [3, 5])

    def test_the_first_and_the_last_node(self):
        self.check("(fun a (pair 0 (fun b 1)))", [0, 3], [])
        self.check("(0 (pair 0 (1 2)))", [], [0, 4])
        self.check("(pair " + add_row(13) + " (fun x x))", [28], [])
        self.check("(new (pair " + add_row(12) + " (0 0)))", [], [27])

    def test_as_many_as_there_can_be(self):
        self.check(nest("fun x", 8, "x"), list(range(8)), [])
        self.check("(" * 8 + "0" + " 0)" * 8, [], list(range(8)))
        text = "(((0 (0 0)) ((0 0) (0 0))) (((0 0) (0 0)) ((0 0) (0 0))))"
        self.check(text, [], [0, 1, 2, 4, 7, 8, 11, 14, 15, 16, 19, 22, 23, 26])

    def test_the_program_now(self):
        rows = ask(program("((fun x x) 1)"), FUNS, SITES, program("(fun x x"), FUNS, SITES, program("1"), FUNS, SITES)
        self.assertEqual(rows, [[4], [1, 1], [1, 0], [-1], [1, 1], [1, 0], [1], [0], [0]])

    def test_the_input_changes_nothing(self):
        rows = ask_of("(if in ((fun x x) 2) 1)", FUNS, SITES, given(3), FUNS, SITES)
        self.assertEqual(rows, [[1, 3], [1, 2], [0], [1, 3], [1, 2]])


if __name__ == "__main__":
    unittest.main()
