"""The kinds of nodes: their numbers, the words they begin with, and a node itself."""

NUMBER = 0
NAME = 1
FUN = 2
CALL = 3
LET = 4
IF = 5
PAIR = 6
FST = 7
SND = 8
NEW = 9
GET = 10
SET = 11
ADD = 12

# A call has no word of its own; a word that stands here can't be a name.
KIND_OF_WORD = {
    "fun": 2,
    "let": 4,
    "if": 5,
    "pair": 6,
    "fst": 7,
    "snd": 8,
    "new": 9,
    "get": 10,
    "set": 11,
    "add": 12,
}

# By a node's kind: how many expressions stand in it.
PARTS_OF_KIND = (0, 0, 1, 2, 2, 3, 2, 1, 1, 1, 1, 2, 2)

# By a node's kind: how many of these are run before it is decided what comes of the node.
PARTS_RUN_FIRST = (0, 0, 0, 2, 1, 1, 2, 1, 1, 1, 1, 2, 2)

# The kinds of the nodes that make something new each time they give a value: fun, pair and new.
MAKING_KINDS = (2, 6, 9)

# The name of the input, which nothing binds.
INPUT_NAME = "in"

# In the place of a binder's label; 1 more is the 0 that is told where there's no binder.
NO_BINDER = -1


class Node:
    def __init__(self, kind, depth, begin):
        self.kind = kind
        self.depth = depth
        # Where its text begins in the program's, and the place behind its end.
        self.begin = begin
        self.behind = begin
        self.number = 0
        # Of a fun or a let the name that it binds, of a name the name itself.
        self.name = ""
        self.binder = NO_BINDER
        self.parts = []
