"""The package's one entry: a line of calls as a list of numbers, answered by such a list."""

from funsasvalues.desk import Desk

PROGRAM = 0
SHOW = 1
GIVEN = 2
RUN = 3
ARROWS = 4
CALLS = 5
VALUES = 6
FLOWS = 7
NODE = 8
FUNS = 9
SITES = 10
HEAP = 11


def answers(calls):
    desk = Desk()
    told = []
    place = 0
    while place < len(calls):
        behind = place + length_of_call(calls, place)
        answer = answer_of_call(desk, calls[place:behind])
        told.append(len(answer))
        told.extend(answer)
        place = behind
    return told


def length_of_call(calls, place):
    if calls[place] == PROGRAM:
        return 2 + calls[place + 1]
    if calls[place] in (GIVEN, CALLS, VALUES, FLOWS, NODE):
        return 2
    return 1


def answer_of_call(desk, call):
    number = call[0]
    if number == PROGRAM:
        return desk.take_program(call[2:])
    if number == SHOW:
        return desk.tell_text()
    if number == GIVEN:
        return desk.take_given(call[1])
    if number == RUN:
        return desk.tell_run()
    if number == ARROWS:
        return desk.tell_arrows()
    if number == CALLS:
        return desk.tell_calls(call[1])
    if number == VALUES:
        return desk.tell_values(call[1])
    if number == FLOWS:
        return desk.tell_flows(call[1])
    if number == NODE:
        return desk.tell_node(call[1])
    if number == FUNS:
        return desk.tell_funs()
    if number == SITES:
        return desk.tell_sites()
    if number == HEAP:
        return desk.tell_heap()
    return desk.tell_size()
