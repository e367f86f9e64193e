"""[4], [5], [21], [22], [23]: moments, steps, wakings and answers."""

from enoughcharge.errors import NotUsable
from enoughcharge.kinds import is_step
from enoughcharge.moments import (
    answer_of, first_moment, is_moment, is_over, moment_after_step, steps_for, waking_of,
)
from tests.model import random_runs
from tests.samples import ANYTHING, COUNT, LATE, LOOP, MIXED, NEITHER, NOTHING, SIXTY, TWICE, Checks, with_changed

PROGRAMS = (COUNT, TWICE, LATE, LOOP, NOTHING, MIXED)
# Two cells of each kind, so that their order counts.
SIX = (
    (("a", "saved", 3, 1), ("b", "quick", 3, 2), ("c", "kept", 3, 3), ("d", "saved", 3, 0), ("e", "quick", 3, 0), ("f", "kept", 3, 0)),
    (("mark", 2), ("off", 1), ("set", "a", ("minus", "b", ("times", 3, "c")), 3), ("ask", "d", 1), ("end",)),
    ("a", "c", "d", "f"),
)
NOW = ((3, (2, 1)), 2, (0, 1, 2, 3, 2, 1))


class MomentChecks(Checks):
    def not_usable(self, word, function, *given, **named):
        self.refused(NotUsable, {"word": word, "at": -1}, function, *given, **named)


class MomentTest(MomentChecks):
    def test_first_moment(self):
        for program, moment in (
            (COUNT, ((0, ()), 0, (0,))), (TWICE, ((0, ()), 0, (0, 0))), (LATE, ((0, (0,)), 0, (0,))), (LOOP, ((0, ()), 0, ())),
            (MIXED, ((0, (3,)), 0, (1, 1, 3))), (SIX, ((0, (1, 0)), 0, (1, 2, 3, 0, 0, 0))),
        ):
            self.same(first_moment(program), moment)
            self.same(first_moment(program=program), moment)
            self.assertIs(is_moment(program, moment), True)

    def test_moments_that_no_run_reaches(self):
        for moment in (NOW, ((4, (3, 3)), 0, (3,) * 6), ((0, (0, 0)), 4, (0,) * 6), ((1, (3, 0)), 3, (0, 3, 0, 3, 0, 3))):
            self.assertIs(is_moment(SIX, moment), True)
            self.assertIs(is_moment(program=SIX, thing=moment), True)

    def test_moments_spoilt_at_one_place(self):
        copy, place, values = NOW
        wrong_numbers = (None, True, False, -1, "1", (), (1,), [1], SIXTY)
        spoilt = [NOW[:2], NOW + (0,), list(NOW), (list(copy), place, values), (copy, place, list(values)), (copy, place, ()),
                  (copy, place, values[:5]), (copy, place, values + (0,)), (copy[:1], place, values), (copy + (0,), place, values),
                  ((3, [2, 1]), place, values), ((3, (2,)), place, values), ((3, (2, 1, 0)), place, values), ((3, ()), place, values),
                  ((3, None), place, values), (None, place, values), ((), place, values), (copy, place, None), (copy, place, 0)]
        spoilt += [(copy, wrong, values) for wrong in wrong_numbers + (5,)]
        spoilt += [((wrong, copy[1]), place, values) for wrong in wrong_numbers + (5,)]
        for wrong in wrong_numbers + (4,):
            spoilt += [(copy, place, with_changed(values, at, wrong)) for at in range(6)]
            spoilt += [((3, with_changed(copy[1], at, wrong)), place, values) for at in range(2)]
        for thing in tuple(spoilt) + ANYTHING:
            with self.subTest(thing=thing):
                self.assertIs(is_moment(SIX, thing), False)
                for function in (steps_for, waking_of, is_over, answer_of):
                    self.not_usable("moment", function, SIX, thing)
                self.not_usable("moment", moment_after_step, SIX, thing, ())
                self.not_usable("moment", moment_after_step, SIX, thing, None)

    def test_tops_that_differ(self):
        self.assertIs(is_moment(MIXED, ((7, (3,)), 7, (2, 1, 3))), True)
        for copied, values in (((4,), (2, 1, 3)), ((3,), (3, 1, 3)), ((3,), (2, 2, 3)), ((3,), (2, 1, 4))):
            self.assertIs(is_moment(MIXED, ((7, copied), 7, values)), False)
        self.assertIs(is_moment(LOOP, ((0, ()), 0, ())), True)

    def test_steps_for(self):
        for place, steps in ((0, ((),)), (1, ((),)), (2, ((),)), (3, ((0,), (1,), (2,), (3,))), (4, ())):
            moment = (NOW[0], place, NOW[2])
            self.same(steps_for(SIX, moment), steps)
            self.same(steps_for(program=SIX, moment=moment), steps)
        self.same(steps_for(MIXED, first_moment(MIXED)), ((0,), (1,), (2,)))
        self.same(steps_for(((("n", "kept", 0, 0),), (("ask", "n", 1), ("end",)), ()), ((0, ()), 0, (0,))), ((0,),))


class StepTest(MomentChecks):
    def after(self, program, moment, step, wanted):
        self.same(moment_after_step(program, moment, step), wanted)
        self.same(moment_after_step(program=program, moment=moment, step=step), wanted)

    def test_mark_and_off(self):
        self.after(SIX, (NOW[0], 0, NOW[2]), (), ((1, (0, 3)), 1, NOW[2]))
        self.after(SIX, (NOW[0], 1, NOW[2]), (), (NOW[0], 2, NOW[2]))
        self.after(LATE, ((0, (0,)), 1, (1,)), (), ((2, (1,)), 2, (1,)))

    def test_set(self):
        self.after(SIX, NOW, (), (NOW[0], 3, (3, 1, 2, 3, 2, 1)))
        for expression, value in ((("minus", 0, 1), 3), (("minus", 0, 4), 0), (("minus", 0, 5), 3), (4, 0), (7, 3), (SIXTY, 3),
                                  (("plus", "n", "n"), 0), (("times", "n", ("minus", 0, "n")), 0), (("minus", "n", 3), 3)):
            program = (COUNT[0], (("set", "n", expression, 1), ("end",)), ())
            self.after(program, ((1, ()), 0, (2,)), (), ((1, ()), 1, (value,)))
        program = ((("n", "quick", 2, 0), ("o", "saved", SIXTY, 0)), (("set", "o", ("minus", 0, "n"), 1), ("end",)), ())
        self.after(program, ((0, (5,)), 0, (1, 7)), (), ((0, (5,)), 1, (1, SIXTY)))

    def test_ask(self):
        for value in range(4):
            self.after(SIX, (NOW[0], 3, NOW[2]), (value,), (NOW[0], 4, (0, 1, 2, value, 2, 1)))
        huge = ((("n", "kept", SIXTY, 0),), (("ask", "n", 1), ("end",)), ())
        self.after(huge, first_moment(huge), (SIXTY,), ((0, ()), 1, (SIXTY,)))
        self.not_usable("step", moment_after_step, huge, first_moment(huge), (SIXTY + 1,))

    def test_jumps(self):
        self.after(COUNT, ((3, ()), 2, (2,)), (), ((3, ()), 0, (2,)))
        for value in range(4):
            self.after(COUNT, ((0, ()), 0, (value,)), (), ((0, ()), 1 if value < 2 else 3, (value,)))
        program = (COUNT[0], (("unless", ("not", ("equal", ("minus", "n", 2), ("minus", 0, 1))), 3, 1),) + COUNT[1][1:], ())
        for value in range(4):
            self.after(program, ((0, ()), 0, (value,)), (), ((0, ()), 3 if value == 1 else 1, (value,)))

    def test_steps_that_are_not_possible(self):
        for place in (0, 1, 2):
            for step in ((0,), ((),), [], None, True, 0, "", "()", (None,), (0, 0)):
                self.not_usable("step", moment_after_step, SIX, (NOW[0], place, NOW[2]), step)
        for step in ((), (4,), (-1,), (True,), (False,), (None,), ("1",), [0], 0, (0, 0), ((0,),), None, (SIXTY,), "0"):
            self.not_usable("step", moment_after_step, SIX, (NOW[0], 3, NOW[2]), step)
        for step in ((), (0,), None, [], "end"):
            self.not_usable("step", moment_after_step, SIX, (NOW[0], 4, NOW[2]), step)


class WakingTest(MomentChecks):
    def test_waking_of(self):
        for program, moment, waking in (
            (SIX, NOW, ((3, (2, 1)), 3, (2, 2, 2, 1, 0, 1))), (SIX, ((0, (3, 2)), 4, (0,) * 6), ((0, (3, 2)), 0, (3, 2, 0, 2, 0, 0))),
            (COUNT, ((0, ()), 2, (1,)), ((0, ()), 0, (1,))), (LATE, ((0, (0,)), 1, (1,)), ((0, (0,)), 0, (0,))),
            (LATE, ((2, (1,)), 2, (1,)), ((2, (1,)), 2, (1,))), (LOOP, ((0, ()), 0, ()), ((0, ()), 0, ())),
        ):
            self.same(waking_of(program, moment), waking)
            self.same(waking_of(program=program, moment=moment), waking)
            self.same(waking_of(program, waking), waking)

    def test_is_over(self):
        for place in range(5):
            self.assertIs(is_over(SIX, (NOW[0], place, NOW[2])), place == 4)
        self.assertIs(is_over(program=NOTHING, moment=first_moment(NOTHING)), True)

    def test_answer_of(self):
        for place in range(5):
            self.same(answer_of(SIX, (NOW[0], place, NOW[2])), (0, 2, 3, 1) if place == 4 else None)
        self.same(answer_of(program=NOTHING, moment=first_moment(NOTHING)), ())
        self.same(answer_of((SIX[0], SIX[1], ("d",)), (NOW[0], 4, NOW[2])), (3,))
        self.same(answer_of((SIX[0], SIX[1], ()), (NOW[0], 4, NOW[2])), ())

    def test_any_values(self):
        for program in PROGRAMS:
            for thing in NEITHER + (0, (), "n", COUNT):
                self.not_usable("moment", answer_of, program, thing)


class AgainstModelTest(MomentChecks):
    def test_random_runs(self):
        for program, made, _, met in random_runs(1, 300):
            moment = first_moment(program)
            self.same(moment, met["moments"][0])
            for k, stretch in enumerate(made):
                moment = waking_of(program, moment) if k > 0 else moment
                for step in stretch:
                    self.assertTrue(is_step(step) and step in steps_for(program, moment))
                    moment = moment_after_step(program, moment, step)
                    self.assertIn(moment, met["moments"])
            self.same(moment, met["moments"][-1])

    def test_consequences(self):
        for program, _, _, met in random_runs(2, 300):
            for moment in met["moments"]:
                waking = waking_of(program, moment)
                self.assertTrue(is_moment(program, moment) and is_moment(program, waking))
                self.same(waking_of(program, waking), waking)
                self.assertEqual(is_over(program, moment), steps_for(program, moment) == ())
                self.assertEqual(is_over(program, moment), answer_of(program, moment) is not None)
                for step in steps_for(program, moment)[:4]:
                    after = moment_after_step(program, moment, step)
                    self.assertTrue(after[0] == moment[0] or program[1][moment[1]][0] == "mark")
                other = (moment[0], 0, with_kept_alone(program, moment[2]))
                self.same(waking_of(program, other), waking)


def with_kept_alone(program, values):
    """The values with 0 in each cell that is not kept."""
    return tuple(value if cell[1] == "kept" else 0 for cell, value in zip(program[0], values))
