"""Reading a program's text: its nodes in the order of their labels, or NoProgram."""

from funsasvalues.forms import CALL, FUN, INPUT_NAME, KIND_OF_WORD, LET, NAME, NUMBER, PARTS_OF_KIND, Node

MOST_NODES = 30
MOST_AROUND = 8
MOST_DIGITS = 2
MOST_LETTERS = 4

BLANK = 32
OPENING = 40
CLOSING = 41
ZERO = 48
NINE = 57
SMALL_A = 97
SMALL_Z = 122
LETTERS = "abcdefghijklmnopqrstuvwxyz"

NO_BYTE = -1


class NoProgram(ValueError):
    pass


class Reader:
    def __init__(self, text):
        self.text = text
        self.place = 0
        self.nodes = []
        # The labels of the nodes whose brackets are still open, the outermost first.
        self.around = []

    def byte_ahead(self):
        if self.place < len(self.text):
            return self.text[self.place]
        return NO_BYTE

    def take(self, byte):
        if self.byte_ahead() != byte:
            raise NoProgram()
        self.place += 1

    def take_row(self, lowest, highest):
        start = self.place
        while lowest <= self.byte_ahead() <= highest:
            self.place += 1
        return self.text[start:self.place]

    def take_letters(self):
        return "".join([LETTERS[byte - SMALL_A] for byte in self.take_row(SMALL_A, SMALL_Z)])

    def take_name(self):
        name = self.take_letters()
        if name == "" or len(name) > MOST_LETTERS or name in KIND_OF_WORD:
            raise NoProgram()
        return name

    def take_number(self):
        digits = self.take_row(ZERO, NINE)
        if len(digits) > MOST_DIGITS or (len(digits) > 1 and digits[0] == ZERO):
            raise NoProgram()
        number = 0
        for digit in digits:
            number = number * 10 + digit - ZERO
        return number

    def add_node(self, kind, begin):
        if len(self.nodes) == MOST_NODES or len(self.around) > MOST_AROUND:
            raise NoProgram()
        if self.around:
            self.nodes[self.around[-1]].parts.append(len(self.nodes))
        node = Node(kind, len(self.around), begin)
        self.nodes.append(node)
        return node

    def binder_of(self, name):
        for label in reversed(self.around):
            if self.nodes[label].name == name and binds_last_part(self.nodes[label]):
                return label
        raise NoProgram()

    def begin_expression(self):
        byte = self.byte_ahead()
        if byte == OPENING:
            self.begin_bracket()
        elif ZERO <= byte <= NINE:
            self.read_number()
        else:
            self.read_name()

    def read_number(self):
        node = self.add_node(NUMBER, self.place)
        node.number = self.take_number()
        node.behind = self.place

    def read_name(self):
        node = self.add_node(NAME, self.place)
        node.name = self.take_name()
        node.behind = self.place
        if node.name != INPUT_NAME:
            node.binder = self.binder_of(node.name)

    def begin_bracket(self):
        begin = self.place
        self.take(OPENING)
        start = self.place
        word = self.take_letters()
        if word not in KIND_OF_WORD:
            # It is a call, and the letters belong to its function.
            self.place = start
        node = self.add_node(KIND_OF_WORD.get(word, CALL), begin)
        if node.kind == FUN or node.kind == LET:
            self.take(BLANK)
            node.name = self.take_binder_name()
        self.around.append(len(self.nodes) - 1)

    def take_binder_name(self):
        name = self.take_name()
        if name == INPUT_NAME:
            raise NoProgram()
        return name

    def go_on(self):
        node = self.nodes[self.around[-1]]
        if len(node.parts) == PARTS_OF_KIND[node.kind]:
            self.take(CLOSING)
            node.behind = self.place
            self.around.pop()
        else:
            # Only a call's function stands straight behind the bracket.
            if node.kind != CALL or len(node.parts) > 0:
                self.take(BLANK)
            self.begin_expression()


# Whether the name that a fun or a let has is bound in the part that was begun last.
def binds_last_part(node):
    return node.kind == FUN or len(node.parts) == PARTS_OF_KIND[LET]


def read_nodes(text):
    reader = Reader(text)
    reader.begin_expression()
    while reader.around:
        reader.go_on()
    if reader.place < len(text):
        raise NoProgram()
    return reader.nodes
