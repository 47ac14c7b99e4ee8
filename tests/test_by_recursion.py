"""The same answers, reckoned a second time by plain recursion, for many small programs."""

import random
import re
import unittest

from funsasvalues.runs import answers
from tests.helper import ARROWS, FUNS, HEAP, RUN, SHOW, SITES, SIZE
from tests.helper import calls, flows, given, line, node, program, shown, split, values

RESERVED = ("fun", "let", "if", "pair", "fst", "snd", "new", "get", "set", "add")
PARTS = {"if": 3, "pair": 2, "fst": 1, "snd": 1, "new": 1, "get": 1, "set": 2, "add": 2}
KINDS = ["number", "name", "fun", "call", "let", "if", "pair", "fst", "snd", "new", "get", "set", "add"]


class Refused(Exception):
    pass


class Stopped(Exception):
    pass


def parse(text):
    """Nested tuples (label, depth, word, ...) of a program's text; bound tells the names' binders."""
    tokens = re.findall(r"[()]|[^() ]+", text)
    labels = []

    def expression(bound, depth):
        if not tokens or depth > 8 or len(labels) == 30:
            raise Refused()
        label = len(labels)
        labels.append(depth)
        token = tokens.pop(0)
        if token == ")":
            raise Refused()
        if token != "(":
            return (label, depth) + leaf(token, bound)
        word = tokens[0] if tokens else ""
        if word in RESERVED:
            tokens.pop(0)
        if word in ("fun", "let"):
            name = binder()
            own = [] if word == "fun" else [expression(bound, depth + 1)]
            node = [label, depth, word, name] + own + [expression({**bound, name: label}, depth + 1)]
        else:
            count = PARTS.get(word, 2)
            kind = word if word in RESERVED else "call"
            node = [label, depth, kind] + [expression(bound, depth + 1) for _ in range(count)]
        if not tokens or tokens.pop(0) != ")":
            raise Refused()
        return tuple(node)

    def binder():
        name = tokens.pop(0) if tokens else ""
        if not re.fullmatch("[a-z]{1,4}", name) or name in RESERVED or name == "in":
            raise Refused()
        return name

    def leaf(token, bound):
        if re.fullmatch("0|[1-9][0-9]?", token):
            return ("number", int(token))
        if token == "in" or token in bound:
            return ("name", token, bound.get(token, -1))
        raise Refused()

    tree = expression({}, 0)
    if tokens or write(tree) != text:
        raise Refused()
    return tree


def write(node):
    word = node[2]
    if word in ("number", "name"):
        return str(node[3])
    parts = [part if isinstance(part, str) else write(part) for part in node[3:]]
    return "(" + " ".join(([] if word == "call" else [word]) + parts) + ")"


def nodes_of(tree):
    return [tree] + [node for part in tree[3:] if isinstance(part, tuple) for node in nodes_of(part)]


class Walk:
    """A value is a tuple: what it is (two numbers), and what belongs to it."""

    def __init__(self, tree, number):
        self.number = number
        self.steps = 0
        self.flows = []
        self.calls = []
        self.made = []
        try:
            value = self.run(tree, [], {})
            self.end = [0, value[0], value[1], value[2] if value[0] == 0 else 0, self.steps]
        except Stopped as stop:
            self.end = list(stop.args) + [self.steps]

    def run(self, node, string, names):
        if self.steps == 300:
            raise Stopped(2)
        self.steps += 1
        value = getattr(self, "run_" + node[2])(node, string, names)
        flow = (node[0], tuple(string), value[:2])
        if flow not in self.flows:
            self.flows.append(flow)
        return value

    def need(self, node, value, kind):
        if value[0] != kind:
            raise Stopped(1, node[0])

    def run_number(self, node, string, names):
        return (0, 0, node[3])

    def run_name(self, node, string, names):
        return (0, 0, self.number) if node[3] == "in" else names[node[3]]

    def run_fun(self, node, string, names):
        self.made.append(node[0])
        return (1, node[0], node, names)

    def run_call(self, node, string, names):
        function = self.run(node[3], string, names)
        argument = self.run(node[4], string, names)
        self.need(node, function, 1)
        call = (node[0], function[1], tuple(string))
        if call not in self.calls:
            self.calls.append(call)
        fun = function[2]
        return self.run(fun[4], ([node[0]] + string)[:3], {**function[3], fun[3]: argument})

    def run_let(self, node, string, names):
        own = self.run(node[4], string, names)
        return self.run(node[5], string, {**names, node[3]: own})

    def run_if(self, node, string, names):
        number = self.run(node[3], string, names)
        self.need(node, number, 0)
        return self.run(node[4] if number[2] == 0 else node[5], string, names)

    def run_pair(self, node, string, names):
        first = self.run(node[3], string, names)
        second = self.run(node[4], string, names)
        self.made.append(node[0])
        return (2, node[0], first, second)

    def run_fst(self, node, string, names):
        pair = self.run(node[3], string, names)
        self.need(node, pair, 2)
        return pair[2]

    def run_snd(self, node, string, names):
        pair = self.run(node[3], string, names)
        self.need(node, pair, 2)
        return pair[3]

    def run_new(self, node, string, names):
        inside = self.run(node[3], string, names)
        self.made.append(node[0])
        return (3, node[0], [inside])

    def run_get(self, node, string, names):
        reference = self.run(node[3], string, names)
        self.need(node, reference, 3)
        return reference[2][0]

    def run_set(self, node, string, names):
        reference = self.run(node[3], string, names)
        value = self.run(node[4], string, names)
        self.need(node, reference, 3)
        reference[2][0] = value
        return value

    def run_add(self, node, string, names):
        left = self.run(node[3], string, names)
        right = self.run(node[4], string, names)
        self.need(node, left, 0)
        self.need(node, right, 0)
        return (0, 0, (left[2] + right[2]) % 100)


def once(things):
    return list(dict.fromkeys(things))


def counted(rows):
    return [len(rows)] + [part for row in rows for part in row]


def labels_of(tree, word):
    return counted([(each[0],) for each in nodes_of(tree) if each[2] == word])


def wanted_of_all(text, tree, walk):
    """What the calls without a label must answer."""
    depths = [each[1] for each in nodes_of(tree)]
    arrows = once(call[:2] for call in walk.calls)
    rows = [[len(depths)], [0], shown(text), walk.end, counted(arrows)]
    rows += [labels_of(tree, "fun"), labels_of(tree, "call"), [len(walk.made), len(set(walk.made))]]
    return rows + [[len(depths), max(depths), len(arrows), len(walk.flows)]]


def wanted_of_node(each, walk):
    """What the calls with this node's label must answer."""
    label = each[0]
    own = [(call[1], len(call[2])) + call[2] for call in walk.calls if call[0] == label]
    values_here = once(flow[2] for flow in walk.flows if flow[0] == label)
    flows_here = [flow[2] + (len(flow[1]),) + flow[1] for flow in walk.flows if flow[0] == label]
    binder = each[4] + 1 if each[2] == "name" else 0
    told = [KINDS.index(each[2])] + shown(write(each)) + [binder]
    return [counted(own) if each[2] == "call" else [-5], counted(values_here), counted(flows_here), told]


def wanted_answers(text, number, asked):
    """What the calls of the test below must answer, or None for a text that's no program's."""
    try:
        tree = parse(text)
    except Refused:
        return None
    walk = Walk(tree, number)
    nodes = {each[0]: each for each in nodes_of(tree)}
    rows = wanted_of_all(text, tree, walk)
    for label in asked:
        rows += wanted_of_node(nodes[label], walk) if label in nodes else [[-3]] * 4
    return rows


ALL_KINDS = ["fun"] * 4 + ["call"] * 7 + ["let"] * 5 + list(PARTS)
# With these alone every value is a function, so that a run has many calls and is seldom wrong.
CALLING_KINDS = ["fun"] * 2 + ["call"] * 3 + ["let"] * 2


def leaf(chance, bound, kinds):
    if bound and chance.random() < 0.9:
        return chance.choice(bound)
    if kinds is CALLING_KINDS:
        return "(fun x x)"
    return chance.choice(["in", "0", "1", "99", str(chance.randrange(100))])


def expression(chance, bound, depth, kinds=ALL_KINDS):
    """A text that is a program's but where it has too many nodes or is too deep."""
    if depth == 0 or chance.random() < 0.2:
        return leaf(chance, bound, kinds)
    kind = chance.choice(kinds)
    name = chance.choice(["f", "x", "y", "abcd"])
    if kind == "fun":
        return "(fun " + name + " " + expression(chance, bound + [name], depth - 1, kinds) + ")"
    if kind == "let":
        own = expression(chance, bound, depth - 1, kinds)
        return "(let " + name + " " + own + " " + expression(chance, bound + [name], depth - 1, kinds) + ")"
    parts = [expression(chance, bound, depth - 1, kinds) for _ in range(PARTS.get(kind, 2))]
    return "(" + " ".join(([] if kind == "call" else [kind]) + parts) + ")"


def spoiled(chance, text):
    """The text with one sign out, in, or instead of another."""
    place = chance.randrange(len(text) + 1)
    sign = chance.choice("() 019abfinx")
    return text[:place] + chance.choice(["", sign]) + text[place + chance.choice([0, 1]):]


class ByRecursion(unittest.TestCase):
    def check(self, text, number):
        rest = [given(number), SHOW, RUN, ARROWS, FUNS, SITES, HEAP, SIZE]
        # A line has at most 40 calls, so the labels are asked for in several lines.
        for first in range(-1, 31, 7):
            asked = range(first, min(first + 7, 31))
            of_nodes = [call(label) for label in asked for call in (calls, values, flows, node)]
            told = split(answers(line(program(text), *rest, *of_nodes)))
            wanted = wanted_answers(text, number, asked)
            if wanted is None:
                self.assertEqual(told[:3], [[-1], [0], [1, 48]], text)
            else:
                self.assertEqual(told, wanted, text)

    def test_programs_of_all_kinds(self):
        chance = random.Random(1)
        for turn in range(1000):
            text = expression(chance, [], chance.choice([3, 5, 7, 8]))
            if len(text) <= 2000:
                self.check(text, turn % 10)

    def test_programs_that_call_a_lot(self):
        chance = random.Random(3)
        for turn in range(1000):
            text = expression(chance, [], chance.choice([5, 6, 7]), CALLING_KINDS)
            if len(text) <= 2000:
                self.check(text, turn % 10)

    def test_spoiled_programs(self):
        chance = random.Random(2)
        for turn in range(1000):
            text = spoiled(chance, expression(chance, [], 3))
            self.check(text, turn % 10)


if __name__ == "__main__":
    unittest.main()
