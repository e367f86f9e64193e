"""Programs as objects."""

from enoughcharge.errors import NotUsable
from enoughcharge.kinds import is_cost, is_number
from enoughcharge.programchanges import with_cell, with_costs, with_instruction, with_kind, with_marks, with_told
from enoughcharge.programchecker import lets_program
from enoughcharge.programparts import cell_names, cell_of, instruction_at, marks_of, marks_on
from enoughcharge.programreadings import program_read
from enoughcharge.programtexts import program_text


class Program:
    """A program that never changes."""

    def __init__(self, cells, code, told=()):
        lets_program((cells, code, told))
        self._cells = cells
        self._code = code
        self._told = told

    @property
    def cells(self):
        """The tuple of the cells."""
        return self._cells

    @property
    def code(self):
        """The tuple of the instructions."""
        return self._code

    @property
    def told(self):
        """The set of the told names."""
        return self._told

    @property
    def form(self):
        """The triple of cells, code and told."""
        return (self._cells, self._code, self._told)

    def __getitem__(self, at):
        return instruction_at(self.form, at)

    def __contains__(self, x):
        return x in cell_names(self.form)

    def __len__(self):
        return len(self._code)

    def __iter__(self):
        return iter(self._code)

    def __eq__(self, other):
        return isinstance(other, Program) and self.form == other.form

    def __str__(self):
        return str(program_text(self.form))

    def __call__(self, name):
        return cell_of(self.form, name)

    def __add__(self, other):
        return Program(self._cells, self._code + (other,), self._told)

    def changed(self, place, instruction):
        """The Program with this instruction at the place."""
        return made_of(with_instruction(self.form, place, instruction))

    def holding(self, cell):
        """The Program with one cell more."""
        return made_of(with_cell(self.form, cell))

    def turned(self, name, kind):
        """The Program in which the cell of this name is of this kind."""
        return made_of(with_kind(self.form, name, kind))

    def marked(self, places):
        """The Program in which the marks at these places are on, and all others off."""
        return made_of(with_marks(self.form, places))

    def telling(self, names):
        """The Program in which these names are the told ones."""
        return made_of(with_told(self.form, names))

    @classmethod
    def parsed(cls, text):
        """The Program that a string writes."""
        cells, code, told = program_read(text)
        return cls(cells, code, told)

    @staticmethod
    def plain(*costs):
        """The Program without cells with a "mark" of each of these costs, then an "end"."""
        for at, cost in enumerate(costs):
            if not is_cost(cost):
                raise NotUsable("costs", at)
        return Program((), tuple([("mark", cost) for cost in costs]) + (("end",),))


def made_of(form):
    """The Program of a triple."""
    cells, code, told = form
    return Program(cells, code, told)


class Unmarked(Program):
    """A Program with the marks at some places off."""

    def __init__(self, program, *places):
        marks = marks_of(program.form)
        for at, place in enumerate(places):
            if not is_number(place) or place not in marks:
                raise NotUsable("places", at)
        remaining = tuple([place for place in marks_on(program.form) if place not in places])
        cells, code, told = with_marks(program.form, remaining)
        super().__init__(cells, code, told)
        self._source = program

    @property
    def source(self):
        """The Program that this one was made of."""
        return self._source


class Dearer(Program):
    """A Program with each cost greater by more."""

    def __init__(self, program, *, more=1):
        cells, code, told = with_costs(program.form, more)
        super().__init__(cells, code, told)
        self._source = program

    @property
    def source(self):
        """The Program that this one was made of."""
        return self._source
