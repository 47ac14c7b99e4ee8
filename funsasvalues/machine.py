"""A program's run on an input: its steps, its calls, its flows, what it makes, and how it ends."""

from funsasvalues.forms import ADD, CALL, FST, FUN, GET, IF, LET, MAKING_KINDS, NEW, NO_BINDER, NUMBER, PAIR
from funsasvalues.forms import PARTS_RUN_FIRST, SET, SND

MOST_STEPS = 300
MOST_SITES = 3
MODULUS = 100

ENDED = 0
WRONG = 1
LONG = 2


class Function:
    def __init__(self, label, bound):
        self.label = label
        self.bound = bound


class Pair:
    def __init__(self, label, first, second):
        self.label = label
        self.first = first
        self.second = second


class Reference:
    def __init__(self, label, inside):
        self.label = label
        self.inside = inside


# A node that has been come to and has not given its value yet.
class Visit:
    def __init__(self, label, string, bound):
        self.label = label
        self.string = string
        # What the names around are bound to, by their binders' labels.
        self.bound = bound
        self.results = []


class Run:
    def __init__(self, nodes, given):
        self.nodes = nodes
        self.given = given
        self.steps = 0
        # Runs nest far deeper than programs do, so the nodes under way are kept here.
        self.visits = []
        # Dicts of True, as they keep each thing once and in the order of its first coming.
        self.calls = {}
        self.flows = {}
        # The labels of the functions, pairs and references, one for each that was made.
        self.made = []
        # What is answered of the run; empty while it goes on.
        self.ending = []

    def go(self):
        self.come_to(0, (), {})
        while not self.ending:
            self.go_on(self.visits[-1])

    def come_to(self, label, string, bound):
        if self.steps == MOST_STEPS:
            self.ending = [LONG, self.steps]
        else:
            self.steps += 1
            self.visits.append(Visit(label, string, bound))

    def go_on(self, visit):
        node = self.nodes[visit.label]
        had = len(visit.results)
        if had < PARTS_RUN_FIRST[node.kind]:
            self.come_to(node.parts[had], visit.string, visit.bound)
        elif had > PARTS_RUN_FIRST[node.kind]:
            # A call's, a let's or an if's last run part gives what the node gives.
            self.give(visit.results[-1])
        elif node.kind == CALL:
            self.call(visit)
        elif node.kind == LET:
            bound = bind(visit.bound, visit.label, visit.results[0])
            self.come_to(node.parts[1], visit.string, bound)
        elif node.kind == IF:
            self.choose(node, visit)
        else:
            self.finish(node, visit)

    def call(self, visit):
        function = visit.results[0]
        if not isinstance(function, Function):
            self.go_wrong(visit)
        else:
            self.calls[(visit.label, function.label, visit.string)] = True
            body = self.nodes[function.label].parts[0]
            bound = bind(function.bound, function.label, visit.results[1])
            self.come_to(body, longer_string(visit.label, visit.string), bound)

    def choose(self, node, visit):
        number = visit.results[0]
        if not isinstance(number, int):
            self.go_wrong(visit)
        else:
            chosen = 1 if number == 0 else 2
            self.come_to(node.parts[chosen], visit.string, visit.bound)

    def finish(self, node, visit):
        had = len(visit.results)
        if had == 0:
            value = value_of_itself(node, visit, self.given)
        elif had == 1:
            value = value_of_one(node, visit)
        else:
            value = value_of_two(node, visit)
        if node.kind in MAKING_KINDS:
            self.made.append(visit.label)
        if value is None:
            self.go_wrong(visit)
        else:
            self.give(value)

    def give(self, value):
        visit = self.visits.pop()
        self.flows[(visit.label, visit.string, what_is(value))] = True
        if self.visits:
            self.visits[-1].results.append(value)
        else:
            number = value if isinstance(value, int) else 0
            self.ending = [ENDED] + list(what_is(value)) + [number, self.steps]

    def go_wrong(self, visit):
        self.ending = [WRONG, visit.label, self.steps]


def run_program(nodes, given):
    run = Run(nodes, given)
    run.go()
    return run


def what_is(value):
    if isinstance(value, Function):
        return (1, value.label)
    if isinstance(value, Pair):
        return (2, value.label)
    if isinstance(value, Reference):
        return (3, value.label)
    return (0, 0)


# Functions keep what was bound when they were made, so binding makes a new dict.
def bind(bound, binder, value):
    longer = dict(bound)
    longer[binder] = value
    return longer


def longer_string(site, string):
    longer = (site,) + string
    return longer[:MOST_SITES]


def value_of_itself(node, visit, given):
    if node.kind == NUMBER:
        return node.number
    if node.kind == FUN:
        return Function(visit.label, visit.bound)
    if node.binder == NO_BINDER:
        return given
    return visit.bound[node.binder]


# The two functions below answer None where a part's value is not of the kind that is needed.
def value_of_one(node, visit):
    part = visit.results[0]
    if node.kind == NEW:
        return Reference(visit.label, part)
    if node.kind == FST and isinstance(part, Pair):
        return part.first
    if node.kind == SND and isinstance(part, Pair):
        return part.second
    if node.kind == GET and isinstance(part, Reference):
        return part.inside
    return None


def value_of_two(node, visit):
    left = visit.results[0]
    right = visit.results[1]
    if node.kind == PAIR:
        return Pair(visit.label, left, right)
    if node.kind == SET and isinstance(left, Reference):
        left.inside = right
        return right
    if node.kind == ADD and isinstance(left, int) and isinstance(right, int):
        return (left + right) % MODULUS
    return None
