"""The interface: how the calls stand in the list, and what is kept of them (nothing)."""

import contextlib
import inspect
import io
import sys
import unittest

from funsasvalues.runs import answers
from tests.helper import ARROWS, RUN, SHOW, SIZE, ask, calls, count_down, given, line, program, shown, split, values

EXAMPLE = "(let id (fun x x) (pair (id in) (id (fun y 3))))"
OMEGA = "((fun x (x x)) (fun x (x x)))"
MIXED = line(
    program(EXAMPLE), given(4), RUN, ARROWS, calls(7), values(2), SIZE,
    program("("), SHOW, given(10), calls(0), values(11), program(OMEGA), RUN, calls(6), program(""), program("7"), RUN,
)


class Untouchable(list):
    """A list that tells at once when it is changed, be it for a while."""

    def refuse(self, *parts, **named):
        raise AssertionError("the list that was handed in is changed")

    __setitem__ = __delitem__ = __iadd__ = __imul__ = refuse
    append = extend = insert = pop = remove = clear = sort = reverse = refuse


class Interface(unittest.TestCase):
    def test_the_answers_number_by_number(self):
        told = answers(line(program(EXAMPLE), given(4), RUN, ARROWS, calls(7), values(2), SIZE))
        wanted = [1, 11] + [1, 0] + [5, 0, 2, 3, 0, 11] + [5, 2, 4, 1, 7, 1] + [3, 1, 1, 0]
        wanted += [5, 2, 0, 0, 1, 9] + [4, 11, 4, 2, 11]
        self.assertEqual(told, wanted)

    def test_a_text_and_a_refusal_number_by_number(self):
        self.assertEqual(answers([1]), [2, 1, 48])
        self.assertEqual(answers([0, 0, 1]), [1, -1, 2, 1, 48])
        self.assertEqual(answers([0, 2, 49, 50, 1, 3]), [1, 1, 3, 2, 49, 50, 5, 0, 0, 0, 12, 1])
        self.assertEqual(answers([2, -1, 5, 0, 5, 1, 6, -4]), [1, -2, 1, -5, 1, -3, 1, -3])

    def test_a_texts_bytes_are_no_calls(self):
        self.assertEqual(ask([0, 3, 3, 12, 1], SHOW), [[-1], [1, 48]])

    def test_what_was_handed_in_is_not_changed(self):
        handed = Untouchable(MIXED)
        told = answers(handed)
        self.assertEqual(list(handed), MIXED)
        self.assertEqual(told, answers(list(MIXED)))

    def test_what_is_given_back_is_a_new_list(self):
        handed = list(MIXED)
        told = answers(handed)
        first = list(told)
        told.clear()
        self.assertEqual(answers(handed), first)

    def test_nothing_is_kept(self):
        first = answers(list(MIXED))
        self.assertEqual(answers(list(MIXED)), first)
        self.assertEqual(ask(SHOW, given(0), RUN, SIZE), [[1, 48], [0], [0, 0, 0, 0, 1], [1, 0, 0, 1]])

    def test_whole_numbers_alone(self):
        told = answers(list(MIXED))
        self.assertIs(type(told), list)
        self.assertEqual({type(number) for number in told}, {int})

    def test_refusals_alone_are_below_zero(self):
        for row in split(answers(list(MIXED))):
            if min(row) < 0:
                self.assertEqual(len(row), 1)

    def test_forty_calls(self):
        rows = ask(*[given(number % 10) for number in range(40)])
        self.assertEqual(rows, [[0]] + [[number % 10] for number in range(39)])
        rows = ask(program(OMEGA), *([RUN, calls(6), values(3)] * 13))
        self.assertEqual(len(rows), 40)
        self.assertEqual(rows[1:], rows[1:4] * 13)

    def test_a_list_of_sixteen_thousand_numbers(self):
        texts = ["(" * 2000] * 7 + ["0" * 1980]
        handed = line(*[program(text) for text in texts], SHOW, RUN, SIZE, SHOW)
        self.assertEqual(len(handed), 16000)
        self.assertEqual(split(answers(handed)), [[-1]] * 8 + [shown("0"), [0, 0, 0, 0, 1], [1, 0, 0, 1], shown("0")])

    def test_nothing_is_printed(self):
        printed = io.StringIO()
        with contextlib.redirect_stdout(printed), contextlib.redirect_stderr(printed):
            answers(list(MIXED))
        self.assertEqual(printed.getvalue(), "")

    def test_nesting_is_gone_through_by_loops(self):
        deep = "(let f (fun s (fun n (add 1 ((s s) n)))) ((f f) 0))"
        handed = line(program("(" * 2000), program("(new " * 300), program(deep), RUN, program(count_down(28, "0")), RUN)
        before = sys.getrecursionlimit()
        sys.setrecursionlimit(len(inspect.stack()) + 30)
        try:
            told = answers(handed)
        finally:
            sys.setrecursionlimit(before)
        self.assertEqual(split(told), [[-1], [-1], [15], [2, 300], [18], [0, 0, 0, 0, 291]])


if __name__ == "__main__":
    unittest.main()
