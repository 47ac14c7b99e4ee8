"""The interface: how the calls stand in the list, and what is kept of them (nothing)."""

import contextlib
import inspect
import io
import sys
import unittest

from funsasvalues.runs import answers
from tests.helper import ARROWS, EXAMPLE, FUNS, HEAP, HUGE, OMEGA, RUN, SHOW, SITES, SIZE
from tests.helper import ask, calls, count_down, flows, given, line, node, program, shown, split, values

# All thirteen calls, program and input given anew and refused between them; each call with its answer.
STORY = (
    (FUNS, [0]), (HEAP, [0, 0]), (node(0), [0, 1, 48, 0]), (flows(0), [1, 0, 0, 0]), (calls(0), [-5]),
    (program(EXAMPLE), [11]), (given(4), [0]), (RUN, [0, 2, 3, 0, 11]), (SHOW, shown(EXAMPLE)),
    (flows(2), [2, 0, 0, 1, 4, 1, 9, 1, 7]), (values(2), [2, 0, 0, 1, 9]), (program("("), [-1]), (given(10), [-2]),
    (node(2), [1, 1, 120, 2]), (SITES, [2, 4, 7]), (FUNS, [2, 1, 9]), (HEAP, [3, 3]), (ARROWS, [2, 4, 1, 7, 1]),
    (calls(7), [1, 1, 0]), (SIZE, [11, 4, 2, 11]), (calls(0), [-5]), (flows(11), [-3]), (node(-1), [-3]),
    (program("(if in (0 0) (new in))"), [7]), (SITES, [1, 2]), (RUN, [0, 3, 5, 0, 4]), (HEAP, [1, 1]),
    (flows(5), [1, 3, 5, 0]), (given(0), [4]), (RUN, [1, 2, 5]), (HEAP, [0, 0]), (flows(5), [0]),
    (node(5), [9] + shown("(new in)") + [0]), (program(OMEGA), [9]), (RUN, [2, 300]), (SIZE, [9, 3, 3, 12]),
    (program(""), [-1]), (values(8), [1, 1, 5]), (FUNS, [2, 1, 5]), (given(-1), [-2]),
)
MIXED = line(*[call for call, answer in STORY])


class Untouchable(list):
    """A list that tells at once when it is changed, be it for a while."""

    def refuse(self, *parts, **named):
        raise AssertionError("the list that was handed in is changed")

    __setitem__ = __delitem__ = __iadd__ = __imul__ = refuse
    append = extend = insert = pop = remove = clear = sort = reverse = refuse


class Interface(unittest.TestCase):
    def test_the_answers_number_by_number(self):
        text = list(EXAMPLE.encode("ascii"))
        handed = [0, 48] + text + [1, 2, 4, 3, 4, 5, 7, 6, 2, 7, 2, 8, 2, 8, 6, 9, 10, 11, 12]
        wanted = [1, 11] + [49, 48] + text + [1, 0] + [5, 0, 2, 3, 0, 11] + [5, 2, 4, 1, 7, 1] + [3, 1, 1, 0]
        wanted += [5, 2, 0, 0, 1, 9] + [9, 2, 0, 0, 1, 4, 1, 9, 1, 7] + [4, 1, 1, 120, 2] + [5, 1, 2, 105, 110, 0]
        wanted += [3, 2, 1, 9] + [3, 2, 4, 7] + [2, 3, 3] + [4, 11, 4, 2, 11]
        self.assertEqual(answers(handed), wanted)

    def test_all_calls_among_one_another(self):
        self.assertEqual({call[0] for call, answer in STORY}, set(range(13)))
        self.assertEqual(len(STORY), 40)
        for asked, row in zip(STORY, split(answers(MIXED))):
            self.assertEqual(row, asked[1], asked)
        self.assertEqual(len(split(answers(MIXED))), 40)

    def test_each_call_alone(self):
        wanted = {1: [1, 48], 3: [0, 0, 0, 0, 1], 4: [0], 9: [0], 10: [0], 11: [0, 0], 12: [1, 0, 0, 1]}
        for number, answer in wanted.items():
            self.assertEqual(answers([number]), [len(answer)] + answer)
        wanted = {2: [0], 5: [-5], 6: [1, 0, 0], 7: [1, 0, 0, 0], 8: [0, 1, 48, 0]}
        for number, answer in wanted.items():
            self.assertEqual(answers([number, 0]), [len(answer)] + answer)
        self.assertEqual(answers([0, 0]), [1, -1])

    def test_refused_calls_leave_everything_as_it_was(self):
        asked = [SHOW, RUN, ARROWS, calls(4), values(2), flows(2), node(9), FUNS, SITES, HEAP, SIZE]
        refused = [program("(id 1)"), program(""), given(10), given(-1), calls(0), calls(11), values(-1), flows(11)]
        refused += [node(11), flows(HUGE), flows(-HUGE), node(HUGE), node(-HUGE)]
        rows = ask(program(EXAMPLE), given(4), *asked, *refused, *asked, given(4))
        self.assertEqual(rows[13:26], [[-1], [-1], [-2], [-2], [-5], [-3], [-3], [-3], [-3], [-3], [-3], [-3], [-3]])
        self.assertEqual(rows[26:37], rows[2:13])
        self.assertEqual(rows[37], [4])

    def test_labels_that_look_like_calls(self):
        rows = ask(program(EXAMPLE), *[call(label) for label in range(13) for call in (flows, node, values)])
        self.assertEqual(len(rows), 40)
        self.assertEqual(rows[34:], [[-3]] * 6)

    def test_a_text_and_a_refusal_number_by_number(self):
        self.assertEqual(answers([1]), [2, 1, 48])
        self.assertEqual(answers([0, 0, 1]), [1, -1, 2, 1, 48])
        self.assertEqual(answers([0, 2, 49, 50, 1, 3]), [1, 1, 3, 2, 49, 50, 5, 0, 0, 0, 12, 1])
        self.assertEqual(answers([2, -1, 5, 0, 5, 1, 6, -4]), [1, -2, 1, -5, 1, -3, 1, -3])

    def test_a_texts_bytes_are_no_calls(self):
        self.assertEqual(ask([0, 3, 3, 12, 1], SHOW), [[-1], [1, 48]])

    def test_what_was_handed_in_is_not_changed(self):
        handed = Untouchable(MIXED)
        told = answers(handed)
        self.assertEqual(list(handed), MIXED)
        self.assertEqual(told, answers(list(MIXED)))

    def test_what_is_given_back_is_a_new_list(self):
        handed = list(MIXED)
        told = answers(handed)
        first = list(told)
        told.clear()
        self.assertEqual(answers(handed), first)

    def test_nothing_is_kept(self):
        first = answers(list(MIXED))
        self.assertEqual(answers(list(MIXED)), first)
        self.assertEqual(ask(SHOW, given(0), RUN, SIZE), [[1, 48], [0], [0, 0, 0, 0, 1], [1, 0, 0, 1]])

    def test_whole_numbers_alone(self):
        told = answers(list(MIXED))
        self.assertIs(type(told), list)
        self.assertEqual({type(number) for number in told}, {int})

    def test_refusals_alone_are_below_zero(self):
        for row in split(answers(list(MIXED))):
            if min(row) < 0:
                self.assertEqual(len(row), 1)

    def test_forty_calls(self):
        rows = ask(*[given(number % 10) for number in range(40)])
        self.assertEqual(rows, [[0]] + [[number % 10] for number in range(39)])
        rows = ask(program(OMEGA), *([RUN, calls(6), values(3)] * 13))
        self.assertEqual(len(rows), 40)
        self.assertEqual(rows[1:], rows[1:4] * 13)

    def test_a_list_of_sixteen_thousand_numbers(self):
        texts = ["(" * 2000] * 7 + ["0" * 1980]
        handed = line(*[program(text) for text in texts], SHOW, RUN, SIZE, SHOW)
        self.assertEqual(len(handed), 16000)
        self.assertEqual(split(answers(handed)), [[-1]] * 8 + [shown("0"), [0, 0, 0, 0, 1], [1, 0, 0, 1], shown("0")])

    def test_nothing_is_printed(self):
        printed = io.StringIO()
        with contextlib.redirect_stdout(printed), contextlib.redirect_stderr(printed):
            answers(list(MIXED))
        self.assertEqual(printed.getvalue(), "")

    def test_nesting_is_gone_through_by_loops(self):
        deep = "(let f (fun s (fun n (add 1 ((s s) n)))) ((f f) 0))"
        handed = line(program("(" * 2000), program("(new " * 300), program(deep), RUN, flows(3), HEAP, node(3))
        handed += line(program(count_down(28, "0")), RUN)
        before = sys.getrecursionlimit()
        sys.setrecursionlimit(len(inspect.stack()) + 30)
        try:
            told = answers(handed)
        finally:
            sys.setrecursionlimit(before)
        of_node = [12] + shown("(add 1 ((s s) n))") + [0]
        wanted = [[-1], [-1], [15], [2, 300], [0], [38, 2], of_node, [18], [0, 0, 0, 0, 291]]
        self.assertEqual(split(told), wanted)


if __name__ == "__main__":
    unittest.main()
