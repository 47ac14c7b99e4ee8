"""The object that a line of calls is made on: each method answers one call's numbers."""

from funsasvalues.forms import CALL, FUN
from funsasvalues.machine import run_program
from funsasvalues.reading import NoProgram, read_nodes

REFUSED_PROGRAM = -1
REFUSED_GIVEN = -2
REFUSED_LABEL = -3
REFUSED_SITE = -5

HIGHEST_GIVEN = 9

# The text of the program that a new object has: the digit 0.
FIRST_TEXT = (48,)


class Desk:
    def __init__(self):
        self.text = list(FIRST_TEXT)
        self.nodes = read_nodes(self.text)
        self.given = 0

    def run(self):
        return run_program(self.nodes, self.given)

    def has_node(self, label):
        return 0 <= label < len(self.nodes)

    def labels_of(self, kind):
        return [label for label, node in enumerate(self.nodes) if node.kind == kind]

    def take_program(self, text):
        try:
            nodes = read_nodes(text)
        except NoProgram:
            return [REFUSED_PROGRAM]
        self.text = text
        self.nodes = nodes
        return [len(nodes)]

    def tell_text(self):
        return [len(self.text)] + self.text

    def take_given(self, given):
        if not 0 <= given <= HIGHEST_GIVEN:
            return [REFUSED_GIVEN]
        before = self.given
        self.given = given
        return [before]

    def tell_run(self):
        return self.run().ending

    def tell_arrows(self):
        arrows = arrows_of(self.run())
        answer = [len(arrows)]
        for arrow in arrows:
            answer.extend(arrow)
        return answer

    def tell_calls(self, label):
        if not self.has_node(label):
            return [REFUSED_LABEL]
        if self.nodes[label].kind != CALL:
            return [REFUSED_SITE]
        calls = [call for call in self.run().calls if call[0] == label]
        answer = [len(calls)]
        for call in calls:
            string = call[2]
            answer.extend([call[1], len(string)])
            answer.extend(string)
        return answer

    def tell_values(self, label):
        if not self.has_node(label):
            return [REFUSED_LABEL]
        told = {}
        for flow in self.run().flows:
            if flow[0] == label:
                told[flow[2]] = True
        answer = [len(told)]
        for what in told:
            answer.extend(what)
        return answer

    def tell_flows(self, label):
        if not self.has_node(label):
            return [REFUSED_LABEL]
        flows = [flow for flow in self.run().flows if flow[0] == label]
        answer = [len(flows)]
        for flow in flows:
            string = flow[1]
            answer.extend(flow[2])
            answer.append(len(string))
            answer.extend(string)
        return answer

    def tell_node(self, label):
        if not self.has_node(label):
            return [REFUSED_LABEL]
        node = self.nodes[label]
        text = self.text[node.begin:node.behind]
        return [node.kind, len(text)] + text + [node.binder + 1]

    def tell_funs(self):
        funs = self.labels_of(FUN)
        return [len(funs)] + funs

    def tell_sites(self):
        sites = self.labels_of(CALL)
        return [len(sites)] + sites

    def tell_heap(self):
        made = self.run().made
        return [len(made), len(set(made))]

    def tell_size(self):
        run = self.run()
        deepest = max([node.depth for node in self.nodes])
        return [len(self.nodes), deepest, len(arrows_of(run)), len(run.flows)]


# Calls from one site of one function in unlike strings are one arrow.
def arrows_of(run):
    arrows = {}
    for call in run.calls:
        arrows[(call[0], call[1])] = True
    return list(arrows)
