"""Runs that are led by hand."""

from enoughcharge.errors import NothingToUndo, NotUsable
from enoughcharge.moments import allows
from enoughcharge.programparts import cost_at
from enoughcharge.runs import is_run
from enoughcharge.stands import first_stand, stand_after, stand_on


class Kept:
    """A Stand to come back to at the end of a trial, and the Kept of the trial around it."""

    def __init__(self, stand, around):
        self.stand = stand
        self.around = around


class Walker:
    """A run that is led by hand."""

    def __init__(self, program):
        self._program = program
        self._stand = first_stand(program)
        self._kept = None

    @property
    def made(self):
        """The run as a tuple of stretches."""
        return self._stand.stretches

    @made.setter
    def made(self, value):
        self.set_made(value)

    @property
    def moment_now(self):
        """The moment after the run."""
        return self._stand.moment

    @property
    def spent_now(self):
        """What is spent after the run."""
        return self._stand.spent

    @property
    def width_now(self):
        """The width of the run as a Width."""
        return self._stand.width

    def set_made(self, made):
        """Let the run be this one."""
        if not is_run(self._program, made):
            raise NotUsable("made", -1)
        self._stand = stand_after(self._program, made)

    def step(self, step=()):
        """Do a step, and return the moment after it."""
        if not allows(self._program, self._stand.moment, step):
            raise NotUsable("step", -1)
        return self._do(step)

    def fall(self):
        """Fall, and return the moment after it."""
        if not self._can("fall"):
            raise NotUsable("fall", -1)
        return self._do("fall")

    def __iadd__(self, other):
        if not self._can(other):
            raise NotUsable("move", -1)
        self._do(other)
        return self

    def undo(self):
        """Take back the last move of the run, and return it."""
        made = self._stand.stretches
        if made == ((),):
            raise NothingToUndo(0)
        if made[-1] == ():
            move = "fall"
            left = made[:-1]
        else:
            move = made[-1][-1]
            left = made[:-1] + (made[-1][:-1],)
        self._stand = stand_after(self._program, left)
        return move

    def trial(self):
        """For `with`: the Walker itself, which takes back at the end all that is done within."""
        return self

    def __enter__(self):
        self._kept = Kept(self._stand, self._kept)
        return self

    def __exit__(self, kind, value, trace):
        self._stand = self._kept.stand
        self._kept = self._kept.around

    def tried(self, *moves):
        """The moment after these moves, which are taken back."""
        with self.trial():
            for at, move in enumerate(moves):
                if not self._can(move):
                    raise NotUsable("moves", at)
                self._do(move)
            return self._stand.moment

    def _can(self, move):
        """Whether any value is a move that is possible now."""
        moment = self._stand.moment
        if isinstance(move, str):
            return move == "fall" and cost_at(self._program, moment[1]) > 0
        return allows(self._program, moment, move)

    def _do(self, move):
        """Do a move that is possible, and return the moment after it."""
        self._stand = stand_on(self._program, self._stand, move)
        return self._stand.moment
