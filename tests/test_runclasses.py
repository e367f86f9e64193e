"""[31]: runs as objects."""

import copy

from enoughcharge.errors import InvalidText, NotUsable
from enoughcharge.programclasses import Program
from enoughcharge.runclasses import Run
from enoughcharge.runs import is_run, moment_after, spent_after, width_of
from enoughcharge.widths import Width
from tests.model import random_runs
from tests.samples import ANYTHING, COUNT, LATE, LOOP, NEITHER, NOTHING, SIXTY, TWICE, Checks

MADE = (((), ()), ((),))
# An ask of great values, and a round.
ASKS = ((("a", "kept", SIXTY * 10 + 9, 0),), (("ask", "a", 1), ("ask", "a", 2), ("jump", 0, 3)), ("a",))
ANY_RUNS = (((),), ((), ()), (((0,), (1,)), ()), (((SIXTY,),), (), ((7,), (7,), (), (7,))), ((), (), ()), (((10,),),))


class RunChecks(Checks):
    def is_run_of(self, run, program, made):
        self.assertIs(run.__class__, Run)
        self.same(run.made, made)
        self.same(run.moment_now, moment_after(program, made))
        self.same(run.spent_now, spent_after(program, made))
        self.assertIs(run.width_now.__class__, Width)
        self.same(run.width_now.number, width_of(program, made))


class RunTest(RunChecks):
    def test_properties(self):
        for made in ANY_RUNS:
            self.is_run_of(Run(ASKS, made), ASKS, made)
            self.is_run_of(Run(stretches=made, program=ASKS), ASKS, made)
        for program in (COUNT, TWICE, LATE, LOOP, NOTHING):
            self.is_run_of(Run(program), program, ((),))
            self.is_run_of(Run(program=program), program, ((),))
        self.same([Run(COUNT).width_now.number, Run(COUNT, MADE).width_now.number, Run(COUNT, MADE).spent_now], [None, 3, 1])

    def test_it_never_changes(self):
        run = Run(COUNT, MADE)
        for name in ("made", "moment_now", "spent_now", "width_now"):
            with self.assertRaises(AttributeError):
                setattr(run, name, ((),))
        kept = copy.deepcopy(vars(run))
        self.assertEqual(run + (), Run(COUNT, MADE + ((),)))
        self.assertEqual(repr({key: str(thing) for key, thing in vars(run).items()}),
                         repr({key: str(thing) for key, thing in kept.items()}))
        with self.assertRaises(TypeError):
            run[0] = ()

    def test_no_runs(self):
        for thing in ANYTHING + ((((), (1,)),), [()], (((),) * 8,), [((), ()), ((),)], (((),) * 7, ())):
            if thing not in (((),), ((), (), ())):
                self.refused(NotUsable, {"word": "stretches", "at": -1}, Run, COUNT, thing)
                self.refused(NotUsable, {"word": "stretches", "at": -1}, Run, program=COUNT, stretches=thing)
        with self.assertRaises(NotUsable):
            Run(COUNT, Run(COUNT))

    def test_random_runs(self):
        for program, made, model, met in random_runs(21, 200):
            run = Run(program, made)
            self.is_run_of(run, program, made)
            self.same([run.moment_now, run.spent_now], [model.moment(), model.spent])
            self.assertEqual(Run.read(program, str(run)), run)
            if len(made) > 1:
                self.assertTrue(Run(program, made[:-1]) <= run)
                self.assertTrue(run.width_now <= Run(program, made[:-1]).width_now)


class OperatorTest(RunChecks):
    def test_plus(self):
        self.is_run_of(Run(COUNT, MADE) + ((), ()), COUNT, MADE + (((), ()),))
        self.is_run_of(Run(ASKS) + (), ASKS, ((), ()))
        self.is_run_of(Run(ASKS) + ((3,), (SIXTY,), ()), ASKS, ((), ((3,), (SIXTY,), ())))

    def test_plus_of_what_gives_no_run(self):
        for thing in ANYTHING + ([()], ((), ()), ((0,), True), [], ((True,),), Run(COUNT), Width(), Program(*COUNT)):
            if thing != () and thing != ((0,), (1,)):
                with self.assertRaises(NotUsable) as caught:
                    Run(ASKS) + thing
                self.same(vars(caught.exception), {"word": "stretch", "at": -1})
        for program, made in ((NOTHING, ((),)), (COUNT, (((),) * 7,)), (LATE, (((), ()),))):
            with self.assertRaises(NotUsable) as caught:
                Run(program, made) + ()
            self.same(vars(caught.exception), {"word": "stretch", "at": -1})

    def test_index(self):
        run = Run(COUNT, MADE + ((),))
        self.same([run[0], run[1], run[2]], [((), ()), ((),), ()])
        for thing in NEITHER + (3, 4, -1, -3, SIXTY, "k", "0", (1,), slice(0, 1), Run(COUNT)):
            with self.assertRaises(NotUsable) as caught:
                run[thing]
            self.same(vars(caught.exception), {"word": "k", "at": -1})

    def test_in(self):
        run = Run(ASKS, (((0,), (1,)), ((5,),)))
        for thing in (((0,), (1,)), ((5,),)):
            self.assertIs(thing in run, True)
        for thing in ANYTHING + (((False,), (True,)), ((False,), (1,)), [(5,)], ([5],), (5,), ((0,),), run):
            if thing != ((0,), (1,)) or "True" in repr(thing):
                self.assertIs(thing in run, False)
        self.assertIs(() in run, False)
        self.assertIs(() in Run(ASKS), True)

    def test_length_and_iteration(self):
        for made in ANY_RUNS:
            run = Run(ASKS, made)
            self.same(len(run), len(made))
            self.same([stretch for stretch in run], list(made))
            self.same(tuple(run), made)
            self.same([stretch in run for stretch in run], [True] * len(made))

    def test_equality(self):
        for left in ANY_RUNS:
            for right in ANY_RUNS:
                self.assertIs(Run(ASKS, left) == Run(ASKS, right), left == right)
                self.assertIs(Run(ASKS, left) != Run(ASKS, right), left != right)
        unlike = (ASKS[0], ASKS[1], ())
        self.assertIs(Run(ASKS) == Run(unlike), False)
        self.assertIs(Run(COUNT) == Run(TWICE), False)
        for thing in ANYTHING + (Width(), Program(*ASKS), Run):
            self.assertIs(Run(ASKS) == thing, False)
            self.assertIs(thing == Run(ASKS), False)

    def begins(self, left, right, wanted):
        self.assertIs(left <= right, wanted)
        self.assertIs(right >= left, wanted)
        self.assertIs(left.__le__(right), wanted)
        self.assertIs(right.__ge__(left), wanted)

    def test_beginnings(self):
        whole = (((0,), (1,)), (), ((7,), (7,), ()), ())
        parts = [whole[:at] + (whole[at][:many],) for at in range(4) for many in range(len(whole[at]) + 1)]
        for low, part in enumerate(parts):
            for high, other in enumerate(parts):
                self.begins(Run(ASKS, part), Run(ASKS, other), low <= high)
        for other in (((0,),), ((0,), ()), ((1,), (1,)), ((0,), (2,))):
            if is_run(ASKS, (other,)):
                self.begins(Run(ASKS, (other,)), Run(ASKS, whole), other == ((0,),))
        self.begins(Run(ASKS, (((0,),), ())), Run(ASKS, whole), False)
        self.begins(Run(ASKS, (((0,), (1,)), ((7,),))), Run(ASKS, whole), False)

    def test_beginnings_of_unlike_programs(self):
        unlike = (ASKS[0], ASKS[1], ())
        for left in ANY_RUNS:
            for right in ANY_RUNS:
                self.begins(Run(ASKS, left), Run(unlike, right), False)

    def test_only_runs_are_compared(self):
        for thing in (None, 3, ((),), "-", Width(), Program(*ASKS)):
            with self.assertRaises(TypeError):
                Run(ASKS) <= thing
            with self.assertRaises(TypeError):
                Run(ASKS) >= thing


class TextTest(RunChecks):
    def test_texts(self):
        for program, made, text in (
            (COUNT, ((),), "-"), (COUNT, MADE, ". . | ."), (COUNT, ((), ()), "- | -"), (COUNT, (((), ()), (), ((),), ()), ". . | - | . | -"),
            (ASKS, (((0,), (10,), ()), ((7,),)), "0 10 . | 7"), (ASKS, (((SIXTY,),),), "9" * 60),
        ):
            self.same(str(Run(program, made)), text)
            self.is_run_of(Run.read(program, text), program, made)
            self.is_run_of(Run.read(text=text, program=program), program, made)

    def test_great_values_are_written(self):
        program = ((("a", "kept", 10 ** 5000, 0),), (("ask", "a", 1), ("end",)), ())
        self.same(str(Run(program, (((SIXTY * 10 + 9,),),))), "9" * 61)
        self.same(str(Run(program, (((10 ** 5000,),),))), "1" + "0" * 5000)

    def unread(self, field, text, program=ASKS):
        self.refused(InvalidText, {"line": 0, "field": field}, Run.read, program, text)

    def test_words_that_cannot_stand(self):
        for word in ("", "x", "--", "..", "-1", "+1", "00", "01", "1_0", "9" * 61, "0" * 60, "\n", ".\n", "-\n", "1\n", "\n1", "|\n", "||",
                     "1.", "(1)", "()", "fall", "1|", "_", "1,1"):
            for field, ahead in ((0, ""), (1, ". "), (2, "1 2 "), (2, "- | "), (3, ". . | "), (2, "0 | ")):
                self.unread(field, ahead + word)
                self.unread(field, ahead + word + " .")
                self.unread(field, ahead + word + " | 01")
        self.same(Run.read(ASKS, "9" * 60).made, (((SIXTY,),),))

    def test_what_is_no_string(self):
        for thing in ANYTHING:
            if not isinstance(thing, str):
                self.refused(NotUsable, {"word": "text", "at": -1}, Run.read, COUNT, thing)
                self.refused(NotUsable, {"word": "text", "at": -1}, Run.read, text=thing, program=NOTHING)

    def test_bars_and_empty_stretches(self):
        for field, text in ((0, "|"), (0, "| ."), (0, ""), (0, " "), (1, "- -"), (1, "- ."), (1, "- 0"), (1, ". -"), (2, ". | |"), (2, "- | | -"),
                            (1, ".  ."), (1, ". "), (0, " ."), (1, "- "), (3, ". | - ."), (3, "1 2 . -"), (4, "- | 1 . -")):
            self.unread(field, text)

    def test_missing_words(self):
        for field, text in ((2, ". |"), (2, "- |"), (4, "- | 7 |"), (4, "1 2 . |"), (4, "- | - |")):
            self.unread(field, text)

    def test_the_text_ahead_of_the_run(self):
        self.unread(1, "9 x", COUNT)
        self.unread(2, ". | x", NOTHING)
        for program, text in ((NOTHING, "."), (NOTHING, "- | -"), (COUNT, "0"), (COUNT, ". . . . . . . ."), (ASKS, "."), (ASKS, "0 | ."),
                              (ASKS, "0 1 2"), (LATE, ". . | -")):
            self.refused(NotUsable, {"word": "stretches", "at": -1}, Run.read, program, text)
        small = ((("a", "kept", 3, 0),), (("ask", "a", 1), ("end",)), ())
        self.refused(NotUsable, {"word": "stretches", "at": -1}, Run.read, small, "4")
        self.is_run_of(Run.read(small, "3"), small, (((3,),),))
