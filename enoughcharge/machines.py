"""Live machines: runs that are followed step by step."""

from enoughcharge.answers import answers_among, right_answers
from enoughcharge.charges import check_charge
from enoughcharge.errors import InvalidEvent, NothingToUndo, NotUsable
from enoughcharge.events import is_event
from enoughcharge.eventtexts import event_line
from enoughcharge.fallmaps import NOW, fall_map_now
from enoughcharge.moments import possible_steps, woken
from enoughcharge.programchecker import lets_program
from enoughcharge.programparts import cell_index, cell_names
from enoughcharge.programtexts import number_text
from enoughcharge.ringways import fall_numbers
from enoughcharge.states import answer_to, falls_of, first_state, note_called, reason_at, state_after, width_at


class Machine:
    """A live machine, which follows a run of a program with a charge."""

    MOST = 40

    def __init__(self, program, charge):
        lets_program(program)
        check_charge(charge)
        self._beginning = ("machine", program, charge)
        self._names = tuple(cell_names(program))
        self._state = first_state(program, charge)
        # Each operation is finished when its call ends, also by an error, so no tally can tell two numbers.
        self._operations = 0

    @property
    def program_now(self):
        """The program as it is now."""
        return self._state.program

    @property
    def charge_now(self):
        """The charge as it is now; to assign it applies the event."""
        return self._state.charge

    @charge_now.setter
    def charge_now(self, value):
        self._apply(("charge", value))

    @property
    def moment_now(self):
        """The moment as it is now."""
        return self._state.stand.moment

    @property
    def spent_now(self):
        """What is spent now."""
        return self._state.stand.spent

    @property
    def run_now(self):
        """The tuple of the stretches so far."""
        return self._state.stand.stretches

    @property
    def can_fall(self):
        """Whether a fall can come now."""
        return reason_at(self._state, ("fall",)) is None

    @property
    def width_here(self):
        """The width of a fall here, None where no cost is due."""
        return width_at(self._state)

    @property
    def steps_now(self):
        """The set of the steps that are possible now."""
        return possible_steps(self._state.program, self._state.stand.moment)

    @property
    def falls_left(self):
        """The greatest number of further falls, None if there is no greatest one."""
        numbers = fall_numbers(self._ahead())
        return None if numbers is None else numbers[NOW]

    @property
    def answers_left(self):
        """The set of the answers that can still come."""
        return answers_among(self._state.program, self._ahead().roads)

    @property
    def wrong_left(self):
        """The set of the wrong answers that can still come."""
        right = right_answers(self._state.program)
        return tuple([answer for answer in self.answers_left if answer not in right])

    def _ahead(self):
        """The FallMap of all that can still come."""
        state = self._state
        return fall_map_now(state.program, state.charge, state.stand.moment, state.stand.spent)

    def step(self, *answers):
        """Do a step, and return its cost."""
        return self._apply(("step", answers))

    def fall(self):
        """Fall, and return the width of the fall."""
        return self._apply(("fall",))

    def set_charge(self, n):
        """Let this be the charge."""
        return self._apply(("charge", n))

    def put_off(self, place):
        """Turn the "mark" at a place off."""
        return self._apply(("off", place))

    def put_on(self, place):
        """Turn the "off" at a place on."""
        return self._apply(("on", place))

    def note(self, name):
        """Note the moment under a name."""
        return self._apply(("note", name))

    def go(self, event):
        """Apply any value as an event, and return its answer."""
        return self._apply(event)

    def __call__(self, event):
        return self._apply(event)

    def __getitem__(self, at):
        index = cell_index(self._state.program, at)
        return self._state.stand.moment[2][index]

    def __contains__(self, x):
        return x in self._names

    def __iter__(self):
        return iter(self._names)

    def __len__(self):
        return len(self._state.events)

    def __eq__(self, other):
        return (
            isinstance(other, Machine)
            and self._beginning == other._beginning
            and self._state.events == other._state.events
        )

    def __str__(self):
        if len(self._state.events) == 0:
            return "-"
        return " / ".join([event_line(event) for event in self._state.events])

    def tried(self, *events):
        """The triple of the moment, what is spent and the charge after these events, which are not applied."""
        state = self._state
        for event in events:
            state = self._after(state, event)
        return (state.stand.moment, state.stand.spent, state.charge)

    def undo(self):
        """Take back the last event, and return it."""
        self._operations = self._operations + 1
        if self._state.before is None:
            raise NothingToUndo(0)
        event = self._state.events[-1]
        self._state = self._state.before
        return event

    def do_all(self, *events, keep=False):
        """Apply events in order, and return their number; with keep those ahead of an error stay applied."""
        self._operations = self._operations + 1
        if not isinstance(keep, bool):
            raise NotUsable("keep", -1)
        self.follow(events, keep)
        return len(events)

    def follow(self, events, keep):
        """Apply a tuple of events as do_all does, without counting."""
        state = self._state
        for event in events:
            state = self._after(state, event)
            if keep:
                self._state = state
        self._state = state

    def tally(self):
        """The numbers of started and of finished operations."""
        return (self._operations, self._operations)

    def barred(self, event):
        """Why any value is not possible as an event, None if it is."""
        return self._reason(self._state, event)

    def table(self):
        """The list of a string for each cell: its name, its kind, its value now, and its value after a fall."""
        cells, moment = self._state.program[0], self._state.stand.moment
        woken_values = woken(self._state.program, moment)[2]
        return [table_row(cell, value, after) for cell, value, after in zip(cells, moment[2], woken_values)]

    def moment_at(self, name):
        """The moment of the note with this name."""
        return self._noted(name)[1]

    def falls_since(self, name):
        """The number of falls after the note with this name."""
        return falls_of(self._state) - self._noted(name)[2]

    def log(self):
        """The tuple of the first element and all events."""
        return (self._beginning,) + self._state.events

    def _noted(self, name):
        """The note with this name."""
        note = note_called(self._state, name)
        if note is None:
            raise NotUsable("name", -1)
        return note

    def _reason(self, state, event):
        """Why any value is not possible as an event in a state, None if it is."""
        if not is_event(event):
            return "shape"
        if len(state.events) >= self.MOST:
            return "full"
        return reason_at(state, event)

    def _after(self, state, event):
        """The state after any value as an event."""
        reason = self._reason(state, event)
        if reason is not None:
            raise InvalidEvent(event, reason)
        return state_after(state, event)

    def _apply(self, event):
        """Count an operation, apply any value as an event, and return its answer."""
        self._operations = self._operations + 1
        state = self._state
        self._state = self._after(state, event)
        return answer_to(state, event)


def table_row(cell, value, after):
    """The string for a cell with its value now and its value after a fall."""
    return f"{cell[0]:<8} {cell[1]:<5} {number_text(value):>3} {number_text(after):>3}"
