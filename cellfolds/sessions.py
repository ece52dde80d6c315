"""The program's one function: the calls on a new notebook, laid into one list, and their answers."""

from cellfolds.calls import Notebook, call_check, call_do, call_read, call_redo, call_seed, call_undo, call_write

# The numbers 7 to 13 are kept for calls still to come.
CALLS = {
    0: call_read,
    1: call_check,
    2: call_write,
    3: call_seed,
    4: call_do,
    5: call_undo,
    6: call_redo,
}

# Behind these calls' numbers stands a row, with how many numbers it has before it.
WITH_ROW = (0, 1, 4)
# Behind these calls' numbers stands one whole number.
WITH_WHOLE = (3,)


def answers(calls):
    notebook = Notebook()
    told = []
    place = 0
    while place < len(calls):
        call = calls[place]
        place += 1
        argument = None
        if call in WITH_WHOLE:
            argument = calls[place]
            place += 1
        elif call in WITH_ROW:
            behind = place + 1 + calls[place]
            argument = calls[place + 1:behind]
            place = behind
        answer = CALLS[call](notebook, argument)
        told.append(len(answer))
        told.extend(answer)
    return told
