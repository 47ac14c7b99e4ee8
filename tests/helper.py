"""How the tests write a line of calls, and take its answers apart."""

from funsasvalues.runs import answers

SHOW = [1]
RUN = [3]
ARROWS = [4]
FUNS = [9]
SITES = [10]
HEAP = [11]
SIZE = [12]

HUGE = 1000000000000000000

# The document's example.
EXAMPLE = "(let id (fun x x) (pair (id in) (id (fun y 3))))"
# A run without an end.
OMEGA = "((fun x (x x)) (fun x (x x)))"


def program(text):
    row = list(text.encode("ascii")) if isinstance(text, str) else list(text)
    return [0, len(row)] + row


def given(number):
    return [2, number]


def calls(label):
    return [5, label]


def values(label):
    return [6, label]


def flows(label):
    return [7, label]


def node(label):
    return [8, label]


def line(*parts):
    return [number for part in parts for number in part]


def split(told):
    """Each call's answer by itself, out of what is given back."""
    rows = []
    place = 0
    while place < len(told):
        behind = place + 1 + told[place]
        rows.append(told[place + 1:behind])
        place = behind
    if place != len(told):
        raise ValueError("an answer is cut off")
    return rows


def ask(*parts):
    return split(answers(line(*parts)))


def ask_of(text, *parts):
    """The answers to the calls behind a program that must be taken."""
    rows = ask(program(text), *parts)
    if rows[0][0] < 1:
        raise ValueError("no program: " + text)
    return rows[1:]


def shown(text):
    return [len(text)] + list(text.encode("ascii"))


# Counts n down to 0 and then gives END: it has 10 * n + 10 steps and END's own.
COUNT_DOWN = "(let f (fun s (fun n (if n END ((s s) (add n 99))))) ((f f) TIMES))"


def count_down(times, end):
    return COUNT_DOWN.replace("END", end).replace("TIMES", str(times))


# Functions that call one another: e calls h, h calls g, g calls f.
CHAIN = "(let f FIRST (let g (fun x (f x)) (let h (fun x (g x)) (let e (fun x (h x)) LAST))))"


def chain(first, last):
    return CHAIN.replace("FIRST", first).replace("LAST", last)


def add_row(count):
    """A program of 2 * count + 1 nodes that is as flat as it can be."""
    if count == 0:
        return "0"
    left = (count - 1) // 2
    return "(add " + add_row(left) + " " + add_row(count - 1 - left) + ")"


def nest(word, count, inmost):
    return ("(" + word + " ") * count + inmost + ")" * count
