"""States of live machines, and what events do to them."""

from enoughcharge.moments import allows
from enoughcharge.programchanges import with_instruction
from enoughcharge.programparts import cost_at, instruction_at, is_place
from enoughcharge.stands import first_stand, stand_on

# What an event puts in the place of what.
TURNED = {"off": ("mark", "off"), "on": ("off", "mark")}


class State:
    """Where a machine has come to; it never changes."""

    def __init__(self, program, charge, stand, notes, events, before):
        self.program = program
        self.charge = charge
        self.stand = stand
        # For each note the triple of its name, its moment and the number of falls ahead of it.
        self.notes = notes
        self.events = events
        # The State ahead of the last event, None at the beginning.
        self.before = before


def first_state(program, charge):
    """The State of a new machine."""
    return State(program, charge, first_stand(program), (), (), None)


def state_after(state, event):
    """The State after an event that is possible."""
    program, charge, stand, notes = state.program, state.charge, state.stand, state.notes
    word = event[0]
    if word == "step":
        stand = stand_on(program, stand, event[1])
    elif word == "fall":
        stand = stand_on(program, stand, "fall")
    elif word == "charge":
        charge = event[1]
    elif word == "note":
        notes = notes + ((event[1], stand.moment, falls_of(state)),)
    else:
        cost = instruction_at(program, event[1])[1]
        program = with_instruction(program, event[1], (TURNED[word][1], cost))
    return State(program, charge, stand, notes, state.events + (event,), state)


def answer_to(state, event):
    """What an event that is possible answers: the cost of a step, the width of a fall, otherwise None."""
    if event[0] == "step":
        return due_at(state)
    if event[0] == "fall":
        return width_at(state)
    return None


def reason_at(state, event):
    """Why an event by form is not possible, None if it is; how many events came does not matter."""
    word = event[0]
    if word == "step":
        return step_reason(state, event[1])
    if word == "fall":
        return fall_reason(state)
    if word == "note":
        return "twice" if note_called(state, event[1]) is not None else None
    if state.stand.stretches[-1] != ():
        return "fresh"
    if word == "charge":
        return "same" if event[1] == state.charge else None
    if is_place(state.program, event[1]) and instruction_at(state.program, event[1])[0] == TURNED[word][0]:
        return None
    return "place"


def step_reason(state, step):
    """Why a step is not possible, None if it is."""
    if is_ended(state):
        return "over"
    return None if allows(state.program, state.stand.moment, step) else "step"


def fall_reason(state):
    """Why a fall is not possible, None if it is."""
    if is_ended(state):
        return "over"
    width = width_at(state)
    return None if width is not None and width >= state.charge else "charge"


def is_ended(state):
    """Whether the moment is over."""
    return instruction_at(state.program, state.stand.moment[1])[0] == "end"


def due_at(state):
    """The cost that is due."""
    return cost_at(state.program, state.stand.moment[1])


def width_at(state):
    """The width of a fall, None where no cost is due."""
    due = due_at(state)
    return state.stand.spent + due - 1 if due > 0 else None


def falls_of(state):
    """How many falls came."""
    return len(state.stand.stretches) - 1


def note_called(state, name):
    """The note with this name, None for any value that is the name of none."""
    for note in state.notes:
        if note[0] == name:
            return note
    return None
