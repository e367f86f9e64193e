"""Runs as objects."""

from enoughcharge.errors import InvalidText, NotUsable
from enoughcharge.kinds import is_number, is_stretch
from enoughcharge.programreadings import step_read
from enoughcharge.programtexts import step_text
from enoughcharge.runs import is_run, moment_after, spent_after, width_of
from enoughcharge.widths import Width


class Run:
    """A run that never changes."""

    def __init__(self, program, stretches=((),)):
        if not is_run(program, stretches):
            raise NotUsable("stretches", -1)
        self._program = program
        self._made = stretches
        self._moment = moment_after(program, stretches)
        self._spent = spent_after(program, stretches)
        self._width = Width(width_of(program, stretches))

    @property
    def made(self):
        """The run as a tuple of stretches."""
        return self._made

    @property
    def moment_now(self):
        """The moment after the run."""
        return self._moment

    @property
    def spent_now(self):
        """What is spent after the run."""
        return self._spent

    @property
    def width_now(self):
        """The width of the run as a Width."""
        return self._width

    def __add__(self, other):
        if not is_run(self._program, self._made + (other,)):
            raise NotUsable("stretch", -1)
        return Run(self._program, self._made + (other,))

    def __getitem__(self, at):
        if not is_number(at) or at >= len(self._made):
            raise NotUsable("k", -1)
        return self._made[at]

    def __contains__(self, x):
        return is_stretch(x) and x in self._made

    def __len__(self):
        return len(self._made)

    def __iter__(self):
        return iter(self._made)

    def __eq__(self, other):
        return isinstance(other, Run) and self._program == other._program and self._made == other._made

    def __le__(self, other):
        if not isinstance(other, Run):
            return NotImplemented
        return self._program == other._program and is_beginning(self._made, other._made)

    def __ge__(self, other):
        if not isinstance(other, Run):
            return NotImplemented
        return self._program == other._program and is_beginning(other._made, self._made)

    def __str__(self):
        return " | ".join([stretch_text(stretch) for stretch in self._made])

    @classmethod
    def read(cls, program, text):
        """The Run of the program that a string writes."""
        if not isinstance(text, str):
            raise NotUsable("text", -1)
        return cls(program, stretches_read(text))


def is_beginning(made, other):
    """Whether the stretches of a run are the first ones of another, the last one perhaps a part of it."""
    at = len(made) - 1
    return at < len(other) and made[:at] == other[:at] and other[at][:len(made[at])] == made[at]


def stretch_text(stretch):
    """The words of the steps of a stretch, - without any."""
    if len(stretch) == 0:
        return "-"
    return " ".join([step_text(step, ".") for step in stretch])


def stretches_read(text):
    """The tuple of stretches that a string writes."""
    words = text.split(" ")
    stretches = []
    # Where a stretch is expected: None; behind "-": (); behind its first steps: a tuple of these.
    stretch = None
    for at, word in enumerate(words):
        if word == "|" and stretch is not None:
            stretches.append(stretch)
            stretch = None
        elif word == "-" and stretch is None:
            stretch = ()
        else:
            step = step_read(word, ".")
            if step is None or stretch == ():
                raise InvalidText(0, at)
            stretch = (stretch or ()) + (step,)
    if stretch is None:
        raise InvalidText(0, len(words))
    return tuple(stretches) + (stretch,)
