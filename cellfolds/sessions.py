"""The program's one function: the calls on a new notebook, laid into one list, and their answers."""

from cellfolds.calls import Notebook, call_append, call_at, call_check, call_do, call_fold, call_read, call_redo
from cellfolds.calls import call_same, call_seed, call_state, call_to, call_undo, call_whole, call_write

CALLS = {
    0: call_read,
    1: call_check,
    2: call_write,
    3: call_seed,
    4: call_do,
    5: call_undo,
    6: call_redo,
    7: call_to,
    8: call_fold,
    9: call_append,
    10: call_whole,
    11: call_at,
    12: call_state,
    13: call_same,
}

# Behind these calls' numbers stands a row, with how many numbers it has before it.
WITH_ROW = (0, 1, 4, 9, 13)
# Behind these calls' numbers stands one whole number.
WITH_WHOLE = (3, 7, 8, 11)


def answers(calls):
    notebook = Notebook()
    told = []
    place = 0
    while place < len(calls):
        call = calls[place]
        place += 1
        argument = None
        if call in WITH_WHOLE:
            argument = calls[place]
            place += 1
        elif call in WITH_ROW:
            behind = place + 1 + calls[place]
            argument = calls[place + 1:behind]
            place = behind
        answer = CALLS[call](notebook, argument)
        told.append(len(answer))
        told.extend(answer)
    return told
