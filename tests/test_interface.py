"""The interface: each function and class in its file, with its parameters, and each method in its own class."""

import importlib
import inspect
import pathlib
import unittest

FOLDER = pathlib.Path(__file__).resolve().parent.parent / "enoughcharge"
FUNCTIONS = """
kinds: is_integer(thing) is_number(thing) is_name(thing) is_cell(thing) is_expression(thing) is_test(thing) is_instruction(thing) is_program(thing)
kinds: is_step(thing) is_stretch(thing)
programchecker: lets_program(thing)
programparts: instruction_at(program,place) cost_at(program,place) cell_of(program,name) cells_of(program,kind) marks_of(program) marks_on(program)
programparts: value_of(program,expression,values) holds(program,test,values)
programchanges: with_instruction(program,place,instruction) with_cell(program,cell) without_cell(program,name) with_kind(program,name,kind)
programchanges: with_marks(program,places) with_costs(program,more) with_told(program,names) renamed(program,name,other_name)
programtexts: expression_text(expression) instruction_text(instruction) program_text(program)
programreadings: instruction_read(text,*,line=0,field=0) program_read(text)
moments: first_moment(program) is_moment(program,thing) steps_for(program,moment) moment_after_step(program,moment,step) waking_of(program,moment)
moments: is_over(program,moment) answer_of(program,moment)
runs: is_run(program,thing) lets_run(program,thing) moment_after(program,made) spent_after(program,made) wakings_of(program,made) widths_of(program,made)
runs: width_of(program,made) is_ring(program,made)
pumped: lets_pumped(program,thing) pumped_out(program,thing,many)
stories: story_of(program,made)
stretches: most_spent(program,waking) falls_from(program,waking)
rings: ring_width(program) ring_run(program) least_charge(program) falls_end(program,charge)
onpapers: on_paper(program,charge)
onchecker: lets_on(program,charge,thing)
numbering: numbering(program,charge) most_falls(program,charge) falling_run(program,charge)
loops: has_own_loop(program,charge) own_loop(program,charge) order_paper(program,charge)
loopchecker: lets_no_loop(program,charge,thing)
answers: right_answers(program) answers_at(program,charge) answer_width(program,answer) run_to(program,answer) least_right(program)
rightpapers: right_paper(program,charge)
rightchecker: lets_right(program,charge,thing)
profiles: profile(program) critical_charges(program)
markings: doing_sets(program,charge) least_sets(program,charge) marks_paper(program,charge)
markingchecker: lets_marks(program,charge,thing)
savings: saving_sets(program,charge,price)
likeness: are_alike(program,other,charge) parting_charges(program,other) are_alike_always(program,other)
replaying: is_log(thing) replayed(log)
eventtexts: event_line(event) log_lines(log)
eventreadings: read_event(text) read_log(lines)
"""
CLASSES = {
    ("widths", "Width"): ("number=None", "__eq__ __le__ __ge__ __add__ __radd__ __and__ __or__ __bool__ __str__", "number"),
    ("programclasses", "Program"): (
        "cells,code,told=()", "__getitem__ __contains__ __len__ __iter__ __eq__ __str__ __call__(name) __add__ changed(place,instruction) holding(cell) "
        "turned(name,kind) marked(places) telling(names)", "cells code told form"),
    ("programclasses", "Unmarked"): ("program,*places", "", "source"),
    ("programclasses", "Dearer"): ("program,*,more=1", "", "source"),
    ("runclasses", "Run"): (
        "program,stretches=((),)", "__add__ __getitem__ __contains__ __len__ __iter__ __eq__ __le__ __ge__ __str__", "made moment_now spent_now width_now"),
    ("walkers", "Walker"): (
        "program", "step(step=()) fall() __iadd__ undo() set_made(made) trial() tried(*moves)", "made moment_now spent_now width_now"),
    ("profileclasses", "Profile"): ("program", "__getitem__ __call__(answer) __contains__ __len__ __eq__ __le__ __ge__", "least"),
    ("machines", "Machine"): (
        "program,charge", "step(*answers) fall() set_charge(n) put_off(place) put_on(place) note(name) go(event) __call__(event) __getitem__ __contains__ __iter__ "
        "__len__ __eq__ __str__ tried(*events) undo() do_all(*events,keep=False) tally() barred(event) table() moment_at(name) falls_since(name) log()",
        "program_now charge_now moment_now spent_now run_now can_fall width_here steps_now falls_left answers_left wrong_left"),
    ("desk", "Desk"): ("", "say(row) tally()", ""),
}


def shown(function, own=0):
    """The parameters of a function, without the first ones of a method."""
    given = list(inspect.signature(function).parameters.values())[own:]
    return str(inspect.Signature(given)).replace(" ", "")


class InterfaceTest(unittest.TestCase):
    def test_functions(self):
        for row in FUNCTIONS.strip().split("\n"):
            name, listed = row.split(": ")
            module = importlib.import_module(f"enoughcharge.{name}")
            for told in listed.split(" "):
                function = getattr(module, told.split("(")[0])
                self.assertTrue(inspect.isfunction(function))
                self.assertEqual(function.__module__, module.__name__)
                self.assertEqual(told, function.__name__ + shown(function))

    def test_classes(self):
        for (name, called), (given, methods, properties) in CLASSES.items():
            module = importlib.import_module(f"enoughcharge.{name}")
            kind = getattr(module, called)
            self.assertEqual((kind.__module__, kind.__name__), (module.__name__, called))
            self.assertEqual(shown(vars(kind)["__init__"], 1), f"({given})")
            for told in methods.split():
                method = vars(kind)[told.split("(")[0]]
                self.assertTrue(inspect.isfunction(method), told)
                if "(" in told:
                    self.assertEqual(told, method.__name__ + shown(method, 1))
            for told in properties.split():
                self.assertIsInstance(vars(kind)[told], property)

    def test_class_and_static_methods(self):
        from enoughcharge.programclasses import Program
        from enoughcharge.runclasses import Run
        for kind, name, form, given in ((Program, "parsed", classmethod, "(text)"), (Program, "plain", staticmethod, "(*costs)"), (Run, "read", classmethod, "(program,text)")):
            self.assertIsInstance(vars(kind)[name], form)
            self.assertEqual(shown(getattr(kind, name)), given)

    def test_setters(self):
        from enoughcharge.machines import Machine
        from enoughcharge.walkers import Walker
        self.assertIsNotNone(vars(Walker)["made"].fset)
        self.assertIsNotNone(vars(Machine)["charge_now"].fset)
        self.assertEqual(vars(Machine)["MOST"], 40)

    def test_each_module_of_the_interface_is_there(self):
        names = {row.split(":")[0] for row in FUNCTIONS.strip().split("\n")} | {name for name, _ in CLASSES} | {"errors"}
        self.assertEqual(len(names), 36)
        for name in names:
            self.assertTrue((FOLDER / f"{name}.py").is_file())
